import PyProof.Rows.All
import Wide.All
import OpenK.AllK
import Wide.FinOn
import PySem.Challenge.RW_haulbell_k48_whole_at_the_bounds
import Lean
import PyProof.EqAt
import PyProof.EqKinds
import PyProof.TupleCall
import PyProof.EnumStmt
import PyProof.NeKinds
import PyProof.ExcAttrAll.ValueError
import PyProof.ExcInit
import PyProof.StationsW
import PyProof.NsDelKeeps
import PyProof.InstStoreFacts
import PyProof.ZipIter
import PyProof.IsiBase
import PyProof.AttrMiss
import KE.KDictOf
import KE.KDictList
import PyProof.InstEq
import PyProof.Rows.Range3
import PyProof.EnumMake
import PyProof.StrWalks
import PyProof.DictWalks
import PyProof.Rows.StrWeight2
import PyProof.StrCalls2
import PyProof.Rows.StrFacts2
import KE.KEqDict
import PyProof.StrOps2
import KE.LcSums
open PySem.W renaming behindTheImports→ac
open PySem renaming wpAny_bind→ad,wpAny_pure→am,wpAny_field→ap,wpAny_holding→bd,wpAny_truthy_bool→bi,starEach→bm,sizeLine→bn,wpAny_Call_Name_kw→bv
open List renaming length_map→ce,length_append→ci,mem_of_getElem?→cr,length_take→db,mem_cons_of_mem→dl,map_append→dL,length_singleton→f8,size_toArray→ge,mem_append_right→ii,getElem?_map→im,length_drop→io,append_assoc→jp,getElem?_eq_getElem→le,mem_cons_self→lf,mem_cons→li
open Bool renaming and_eq_true→lw
open Option renaming map_eq_some_iff→nb
open Nat renaming lt_of_lt_of_le→nl,le_of_ble_eq_true→nw,ne_of_lt→ol,le_refl→pc
open Int renaming toNat_natCast→pi
open List renaming replicate→re,getElem?_eq_some_iff→sn
open PySem.Heap renaming get?_push_of_some→sw,lt_size→sK,get?_push_size→tz
set_option linter.all false
set_option maxRecDepth 100000
set_option Elab.async false
set_option compiler.extract_closed false
theorem My.kleA {a b k:Nat}(h:a<=k)(e:Nat.ble (b+1) a=true):b<=k-1:=Nat.le_sub_one_of_lt (nl (nw e) h)
theorem My.kleB {a b k:Nat}(h:a<=k)(e:Nat.ble b a=true):b<=k:=Nat.le_trans (nw e) h
set_option hygiene false
local macro_rules| `(tactic|sleep $n:num)=>`(tactic|((conv at h=>lhs;whnf);iterate $n (split at h;rotate_left;cases h)))
set_option hygiene true
local macro_rules|`(command|abbrev $i:declId $s:optDeclSig $v:declVal)=>`(command|noncomputable def $i:declId $s:optDeclSig $v:declVal)
local macro_rules|`(command|def $i:declId $b:bracketedBinder* :$t $v:declVal)=>`(command|theorem $i:declId $b:bracketedBinder* :$t $v:declVal)
local macro_rules|`(nofun)=>`(by first|exact My.kleA (by assumption) (by rfl)|exact My.kleB (by assumption) (by rfl)|lia|omega)
local macro_rules|`(tactic|omega)=>`(tactic|lia)
noncomputable abbrev My.pr:PySem.Program:=PySem.Challenge.rw_haulbell_k48_whole_at_the_bounds.row.prog
open PySem PySem.W in
set_option maxHeartbeats 0 in
def My.FI:PySem.Challenge.rw_haulbell_k48_whole_at_the_bounds.wellSaid=true:=by
  rewrite [Fast.te9446332074065402090]
  kernel_rfl
namespace L2
open PySem PySem.Spec
abbrev inClass (s:Stmt)(j:Nat):Stmt:=match s with
  | .ClassDef _ _ _ body _ _ _ _ _ _ _=>body.getD j (.Pass ⟨0,0,0,0⟩)
  |_=>.Pass ⟨0,0,0,0⟩
abbrev se (s:Stmt):Arguments:=match s with
  | .FunctionDef _ a _ _ _ _ _ _ _ _=>a
  |_=>{ posonlyargs:=[],args:=[],vararg:=none,kwonlyargs:=[],kw_defaults:=[],kwarg:=none,defaults:=[] }
abbrev tB (s:Stmt):List Stmt:=match s with
  | .FunctionDef _ _ b _ _ _ _ _ _ _=>b
  |_=>[]
abbrev nS (s:Stmt):Scope:=match s with
  | .FunctionDef _ _ _ _ _ _ sc _ _ _=>sc
  |_=>{ kind:=.function,names:=[],isGenerator:=false,isCoroutine:=false }
end L2
namespace My
open PySem L2 PySem.W
abbrev top (i:Nat):Stmt:=PySem.Challenge.pw_haulbell_k48_whole_at_the_bounds.main.body.getD i (.Pass ⟨0,0,0,0⟩)
abbrev tq (i j:Nat):Stmt:=inClass (top i) j
/-- the top's run on a tree -/
abbrev ky (tb:String->Option Builtin)(p:Program)(w:World)(m:Nat)(ann:Option Value):Nat->SharedT->Thread->Option SharedT
  |0,_,_=>none
  |n+1,s,t=>match through t with
    |true=>some s
    |false=>match stepOk m ann t with
      |false=>none
      |true=>match stepT (denote tb) p w s t with
        |some r=>ky tb p w m ann n r.1 r.2
        |none=>none
def r8 {tb:String->Option Builtin}{p:Program}{w:World}{m:Nat}{ann:Option Value}:∀ {n:Nat}{s s':SharedT}{t:Thread},ky tb p w m ann n s t=some s'->topRun tb p w m ann n s.abs t=some s'.abs
  |0,_,_,_,h=>by cases h
  |n+1,s,s',t,h=>by
    unfold ky at h;unfold topRun;cases a:through t
    · rw[a]at h;dsimp only at h⊢
      cases b:stepOk m ann t
      · rw[b]at h;cases h
      · rw[b]at h;dsimp only at h⊢
        cases c:stepT (denote tb) p w s t with
        |none=>rw[c]at h;cases h
        |some r=>rw[c]at h;rw[stepT_spec c];exact r8 h
    · rw[a]at h;cases h;rfl
abbrev EO:Nat->BT->List Obj->BT
  |_,t,[]=>t
  |n,t,o::os=>EO (n+1) (t.ins n o) os
abbrev xj (P:Params):BT:=EO 0 .nil (boot_heap P).objs.toList
abbrev HJ (P:Params)(os:OsState):SharedT:=⟨xj P,11,(boot_heap P).life,Array.mk [],boot_drawn,boot_toks,os⟩
def tQ {p q:Program}{loose:List Str}{Xt:Shared->Bool}{α:Type}{Yf:Shared->α}{Ya:World->α}{N:Nat}(e:opening p=plainProg p.main.scope.names)(hN:Nat.ble 600 N=true)(f:∀ s,fenceModules? p s=some s)
    (h0:∀ P,absHeap (xj P) 11 (boot_heap P).life=boot_heap P) (h1:∀ P,((boot_heap P).isNs mainGlobals,(boot_heap P).objs.size,(boot_heap P).nsMap mainGlobals "__annotations__")=(true,11,some (.ref 6)))
    (run:∀ (w:World) (os:OsState),(ky treeTable p w 11 (some (.ref 6)) N (HJ w.params os) (topStub p)).map (λs=>(staticsOk (importedModules p.main.body) (boot_heap w.params) s.abs.heap&&namesBound p s.abs.heap&&gensDone s.abs&&laidKept (boot_heap w.params) s.abs.heap,
      openSeen q loose (importedModules p.main.body) Xt true s.abs,Yf s.abs))=some (true,openGood q loose,Ya w)):LeftO p q loose Xt Yf Ya N:=λw=>by
  obtain⟨⟨hp,gs,d,k,os⟩,e1,e2⟩:=nb.mp (boot_open e hN f w);obtain⟨rfl,rfl,rfl,rfl⟩:hp=boot_heap w.params/\gs=Array.mk []/\d=boot_drawn/\k=boot_toks:=by simpa using e2
  obtain⟨z1,z2,z3⟩:_/\_/\_:=by simpa only [Prod.mk.injEq] using h1 w.params
  obtain⟨s,r,l⟩:=nb.mp (run w os);obtain⟨l1,l2,l3⟩:_/\_/\_:=by simpa only [Prod.mk.injEq] using l
  have r1:=r8 r;have a0:(HJ w.params os).abs=⟨boot_heap w.params,Array.mk [],boot_drawn,boot_toks,os⟩:=by
    show(⟨absHeap (xj w.params) 11 (boot_heap w.params).life,Array.mk [],boot_drawn,boot_toks,os⟩:Shared)=_;rw[h0]
  rw[a0]at r1;unfold openEnds;rw[e1];have t:topFrom treeTable p w N ⟨boot_heap w.params,Array.mk [],boot_drawn,boot_toks,os⟩=some s.abs:=by
    unfold topFrom;dsimp only;rw[z1,z2,z3,r1];show(match staticsOk (importedModules p.main.body) (boot_heap w.params) s.abs.heap&&namesBound p s.abs.heap&&gensDone s.abs&&laidKept (boot_heap w.params) s.abs.heap with|true=>some s.abs|false=>none)=some s.abs;rw[l1]
  show(topFrom treeTable p w N _).map _=_;rw[t];exact congrArg some (Prod.ext l2 l3)
abbrev Hy:List Addr:=2::3::30::31::47::48::50::51::66::67::69::70::85::86::88::89::104::105::107::108::123::124::126::127::142::143::145::146::161::162::164::165::180::181::183::184::192::193::199::200::201::207::208::214::215::221::222::230::236::237::243::244::250::251::255::256::262::263::265::266::276::277::283::284::293::294::311::312::318::319::325::326::328::329::344::345::351::352::358::359::361::362::377::378::384::385::391::392::394::395::410::411::417::418::424::425::427::428::443::444::450::451::457::458::460::461::469::470::476::477::483::484::492::498::499::505::506::512::513::519::520::526::527::540::541::547::548::554::555::559::560::566::567::569::570::580::581::587::588::596::602::603::609::610::616::617::619::620::628::629::635::636::642::643::649::650::656::657::663::664::677::678::684::685::687::688::703::704::710::711::713::714::729::730::736::737::739::740::755::756::762::763::765::766::781::782::788::789::791::792::807::808::814::815::817::818::821::827::828::834::835::841::842::855::856::862::863::869::870::876::877::883::884::890::891::897::898::904::905::918::919::921::922::932::933::939::940::946::947::953::954::960::961::967::968::974::975::981::982::988::989::995::996::1002::1003::1009::1010::1016::1017::1023::1024::1028::1029::1035::1036::1040::1041::1047::1048::1054::1055::1061::1062::1066::1067::[]
abbrev Io:List Addr:=48::67::86::105::124::143::162::181::193::200::208::215::222::237::244::251::256::263::277::284::312::319::326::345::352::359::378::385::392::411::418::425::444::451::458::470::477::484::499::506::513::520::527::541::548::555::560::567::581::588::603::610::617::629::636::643::650::657::664::678::685::704::711::730::737::756::763::782::789::808::815::828::835::842::856::863::870::877::884::891::898::905::919::933::940::947::954::961::968::975::982::989::996::1003::1010::1017::1024::1029::1036::1041::1048::1055::1062::1067::[]
abbrev Jr:List Addr:=[31,51,70,89,108,127,146,165,184,266,294,329,362,395,428,461,570,620,688,714,740,766,792,818,922]
abbrev runK (tb:String->Option Builtin)(p:Program)(w:World)(m:Nat)(ann:Option Value):Nat->SharedT->Thread->Option (SharedT×Thread)
  |0,s,t=>some (s,t)
  |n+1,s,t=>match through t with
    |true=>none
    |false=>match stepOk m ann t with
      |false=>none
      |true=>match stepT (denote tb) p w s t with
        |some r=>runK tb p w m ann n r.1 r.2
        |none=>none
def cL {tb:String->Option Builtin}{p:Program}{w:World}{m:Nat}{ann:Option Value}{k:Nat}:∀ {n:Nat}{s:SharedT}{t:Thread}{r:SharedT×Thread},runK tb p w m ann n s t=some r->ky tb p w m ann (n+k) s t=ky tb p w m ann k r.1 r.2
  |0,s,t,r,h=>by
    rw[Nat.zero_add];cases h
    rfl
  |n+1,s,t,r,h=>by
    rw[Nat.succ_add];unfold runK at h;conv=>lhs;unfold ky
    cases a:through t
    · rw[a]at h;dsimp only at h⊢
      cases b:stepOk m ann t
      · rw[b]at h;cases h
      · rw[b]at h;dsimp only at h⊢
        cases c:stepT (denote tb) p w s t with
        |none=>rw[c]at h;cases h
        |some r=>rw[c]at h;exact cL h
    · rw[a]at h;cases h
abbrev kT (x y:Str)(s:Stmt):Obj:=⟨.none,none,.func { name:=x,qualname:=y,params:=se s,body:=.stmts (tB s),scope:=nS s,globals:=builtinsNs,closure:=[],defaults:=.none,kwdefaults:=.none },#[]⟩
abbrev bo (P:Params)(i:Nat):Obj:=(boot_heap P).objs.toList.getD i ⟨.none,none,.plain,#[]⟩
abbrev gW (p:Program):Env:={ scope:=p.main.scope,locals:=mainNs,globals:=mainNs,cells:=[],code:=.ref 13,frame:=some 14 }
abbrev JL:Frame:=.ret (λx=>Sem.bind (match x with| .ok f=>Sem.pure f| .error e=>Sem.raise e) (λ_=>ret .none)) none false [] (.builtin "claim.caller" {}) default []
abbrev yU (p:Program)(X:List Stmt):Sem Fin:=Sem.bind (Sem.onRaise (execs X (gW p)) (leaving (gW p))) (λa=>Sem.pure (Fin.done a))
abbrev jF (p:Program)(X:List Stmt)(q:Pos):Thread:=⟨yU p X,.body (ac p) (gW p),q,[JL]⟩
def yw {tb:String->Option Builtin}{p:Program}(h:blockStart (ac p) (gW p)=Sem.pure ()):denote tb (.body (ac p) (gW p))=yU p (ac p):=by
  show Sem.bind (blockStart (ac p) (gW p)) (λ_=>yU p (ac p))=_;rw[h]
  rfl
abbrev o0:Obj:=⟨.type "tuple",none,.seq #[] 0,#[]⟩
abbrev oN:Obj:=⟨.none,none,.fields #[],#[]⟩
abbrev oL:List Str->Nat->List Value
  | [],_=>[]
  |x::r,t=>.str x t::oL r (t+1)
abbrev oS (l:List Str)(t:Nat):Obj:=⟨.type "tuple",none,.seq (Array.mk (oL l t)) 0,#[]⟩
abbrev IH (l:List (Int×Nat)):Array Value:=(l.flatMap λp=>[.int p.1 0,.int 0 0,.ref p.2]).toArray
abbrev Jp:List (Int×Nat):=[(1,20),(5,27),(7,40),(12,59),(19,78),(25,97),(31,116),(36,135),(41,154),(46,173),(53,192),(55,199),(59,207),(61,214),(63,221),(71,228),(100,276),(103,283),(106,290),(108,304),(122,337)]
abbrev JK:List (Int×Nat):=Jp++[(136,370),(150,403),(162,436),(179,469),(185,476),(188,483),(195,490),(249,580),(251,587),(253,594),(272,628),(274,635),(276,642),(279,649),(282,656),(285,663),(292,670),(304,696)]
abbrev Kb:List (Int×Nat):=JK++[(315,722),(330,748),(347,774),(365,800),(383,827),(389,834),(391,841),(393,848),(441,932),(447,939),(463,946),(472,953),(480,960),(482,967),(497,974),(509,981),(513,988),(536,995),(544,1002),(555,1009),(578,1016),(607,1023),(625,1028),(632,1035),(640,1040),(649,1047),(651,1054),(660,1061)]
abbrev oI (l c a:Nat):Obj:=⟨.none,none,.fields #[.int l 0,.int c 0,.ref a],#[]⟩
abbrev oK (x:Str)(t l r:Nat):Obj:=⟨.type "code",none,.fields #[.str x t,.str x (t+1),.str "/claim/cut.py" (t+2),.int l 0,.int 0 0,.int 0 0,.int 0 0,.int 0 0,.ref r,.bool false,.int 181 0,.ref (r+1),.none,.none,.none,.none,.int (t+3:Nat) 0,.int l 0,.str "/claim/cut.py" (t+4)],#[]⟩
abbrev oC (x y:Str)(t l n r u:Nat):Obj:=⟨.type "code",none,.fields #[.str x t,.str y (t+1),.str "/claim/cut.py" (t+2),.int l 0,.int n 0,.int 0 0,.int 0 0,.int 3 0,.ref r,.bool true,.int 181 0,.ref (r+1),.none,.ref (r+2),.ref (r+3),.ref (r+4),.int u 0,.int l 0,.str "/claim/cut.py" (u+1)],#[]⟩
abbrev oF (x y:Str)(s:Stmt)(m:Str)(t c:Nat)(d:Value:=.none):Obj:=⟨.type "function",none,.func (fnOf x y (se s) (tB s) (nS s) d .none .none (.str m t) none (.ref c) .none),#[]⟩
abbrev oR (a b:Nat)(m:Str)(t:Nat):Obj:=⟨.type "frame",none,.plain,#[some (.ref a),some (.ref 3),some (.ref b),none,some (.str m t),none,some (.ref 0)]⟩
abbrev oX (x:Str)(b m:List Value)(n:Addr)(s:List Value)(r t u:Nat)(w:String):Obj:=⟨.type "type",none,.cls ⟨x,b,m,n,x,true,[],s,false,none,false⟩,#[some (.ref r),none,some (.str x t),some (.str x u),some (.builtin w),some (.bool true)]⟩
abbrev oU (a:Addr):Obj:=⟨.type "super",none,.fields #[.ref a,.ref a,.ref a],#[]⟩
abbrev oJ (a:Addr):Obj:=⟨.type "builtin_function_or_method",none,.fields #[.builtin "object.__init_subclass__",.ref a],#[]⟩
abbrev oP:Obj:=⟨.type "builtin_function_or_method",none,.fields #[.builtin "type.__prepare__",.type "type"],#[]⟩
abbrev oQ (a:Addr):Obj:=⟨.type "tuple",none,.seq #[.ref a] 0,#[]⟩
abbrev fG (x y:Str)(s:Stmt)(m:Str)(mt:Nat)(l:List Str)(t ln n a:Nat)(r:List Obj):List Obj:=o0::oN::oS l (t+3)::o0::kT x y s::oC x y t ln n a (t+3+l.length)::oF x y s m mt (a+5)::r
abbrev oW:List (Nat×Obj)->List Obj->List Obj
  | [],l=>l
  |x::r,l=>(oW r l).set x.1 x.2
abbrev eV (x:Str)(t:Tok)(v:Value)(P:Params):DictEntry:=⟨PyData.keyHash P x,.str x t,v⟩
abbrev eM (t:Nat)(m:Str)(u:Nat):Params->DictEntry:=eV "__module__" t (.str m u)
abbrev eQ (t:Nat)(m:Str)(u:Nat):Params->DictEntry:=eV "__qualname__" t (.str m u)
abbrev eF (t l u:Nat):Params->DictEntry:=eV "__firstlineno__" t (.int l u)
abbrev eS (t a:Nat):Params->DictEntry:=eV "__static_attributes__" t (.ref a)
abbrev eN (t:Nat):Params->DictEntry:=eV "__doc__" t .none
abbrev eR (x:Str)(t a:Nat):Params->DictEntry:=eV x t (.ref a)
abbrev oD (P:Params)(es:List (Params->DictEntry))(n:Nat):Obj:=⟨.type "dict",none,.dict (Array.mk (es.map λf=>f P)) n,#[]⟩
abbrev JU (P:Params):List Obj:=
bo P 0::
bo P 1::
bo P 2::
bo P 3::
bo P 4::
bo P 5::
bo P 6::
bo P 7::
bo P 8::
bo P 9::
bo P 10::
o0::
oN::
oK "<module>" 182 1 11::
oR 13 3 "__main__" 164::[]
abbrev J6 (x y:Str)(t l n r:Nat):Obj:=⟨.type "code",none,.fields #[.str x t,.str y (t+1),.str "/claim/cut.py" (t+2),.int l 0,.int n 0,.int 0 0,.int 0 0,.int 3 0,.ref r,.bool true,.int 181 0,.ref (r+1),.none,.none,.none,.ref (r+2),.int (t+3:Nat) 0,.int l 0,.str "/claim/cut.py" (t+4)],#[]⟩
abbrev oG (x b:String)(v:Value)(a t:Nat):Obj:=⟨.type "getset_descriptor",none,.fields #[.str (Str.ofString x) t,.ref a,.builtin b,v],#[]⟩
@[reducible]def Mt:Type:=Str×Str×List Str×Nat×Nat×List (Obj×Nat)
abbrev B3 (a t:Nat)(s:Stmt)(m:Str×Nat)(x y:Str)(l:List Str)(ln n:Nat)(d:Value):List Obj:=match l with
  | []=>o0::oN::kT x y s::J6 x y t ln n a::oF x y s m.1 m.2 (a+3) d::[]
  |_=>o0::oN::oS l (t+3)::o0::kT x y s::oC x y t ln n a (t+3+l.length)::oF x y s m.1 m.2 (a+5) d::[]
abbrev Jz (a t:Nat)(s:Stmt)(m:Str×Nat)(q:Mt):List Obj:=match q.2.2.2.2.2 with
  | []=>B3 a t s m q.1 q.2.1 q.2.2.1 q.2.2.2.1 q.2.2.2.2.1 .none
  |d::_=>d.1::B3 (a+1) (t+d.2) s m q.1 q.2.1 q.2.2.1 q.2.2.2.1 q.2.2.2.2.1 (.ref a)
abbrev B2 (q:Mt)(a:Nat):Nat:=match q.2.2.1 with
  | []=>a+5+q.2.2.2.2.2.length
  |_=>a+7+q.2.2.2.2.2.length
abbrev F3 (q:Mt)(t:Nat):Nat:=match q.2.2.2.2.2 with
  | []=>t+6+q.2.2.1.length
  |d::_=>t+d.2+6+q.2.2.1.length
abbrev Jx (i:Nat)(m:Str×Nat):Nat->List Mt->Nat->Nat->(List Obj->Nat->Nat->List Obj)
  |_,[],_,_=>λr _ _=>r
  |j,q::l,a,t=>λr x y=>Jz a t (inClass (top i) j) m q++Jx i m (j+1) l (B2 q a) (F3 q t) r x y
abbrev Jy:List Mt->Nat->Nat
  | [],a=>a
  |q::l,a=>Jy l (B2 q a)
abbrev JE:List Mt->Nat->Nat
  | [],a=>a
  |q::l,a=>JE l (F3 q a)
abbrev JB:List Mt->Nat->Nat->List (Params->DictEntry)->List (Params->DictEntry)
  | [],_,_,r=>r
  |q::l,a,t,r=>eR q.1 (F3 q t-1) (B2 q a-1)::JB l (B2 q a) (F3 q t) r
abbrev Ju:List Mt->Nat->List Value
  | [],_=>[]
  |q::l,a=>.int q.2.2.2.1 0::.int 4 0::.ref (B2 q a-2)::Ju l (B2 q a)
@[reducible]def It:Type:=(Params->List Obj)×List (Params->DictEntry)×List Value
abbrev iF (a t i:Nat)(m:Str×Nat)(x:Str)(l:List Str)(ln n:Nat)(d:List (Obj×Nat):=[]):It:=(λ_=>Jz a t (top i) m (x,x,l,ln,n,d),eR x (F3 (x,x,l,ln,n,d) t-1) (B2 (x,x,l,ln,n,d) a-1)::[],.int ln 0::.int 0 0::.ref (B2 (x,x,l,ln,n,d) a-2)::[])
abbrev iR (o:Params->List Obj):It:=(o,[],[])
abbrev iE (x:Str)(t:Nat)(v:Value):It:=(λ_=>[],[eV x t v],[])
abbrev iC (a T i:Nat)(m:Str×Nat)(x:Str)(ln:Nat)(ms:List Mt)(st:List Str)(sub:List Value:=[]) (br:Nat:=0) (mro:List Value:=[]) (w:String:=""):It:=
  let b:=Jy ms (a+7)
  let s:=JE ms (T+12)
  let e:=s+st.length
  let h (z:List (Params->DictEntry)):=eF (T+11) ln (T+10)::JB ms (a+7) (T+12) (eS e b::z)
  let o (y:List (Params->DictEntry)) (z k:Obj) (n:Nat) (r:List Obj) (P:Params):List Obj:=z::oP::oD P (eM (T+7) m.1 m.2::eQ (T+9) x (T+8)::h []) (4+ms.length)::o0::⟨.none,none,.fields (Array.mk (Ju ms (a+7))),#[]⟩::oK x (T+2) ln (a+3)::oR (a+5) (a+2) m.1 m.2::Jx i m 0 ms (a+7) (T+12) ((match st with| []=>o0|_=>oS st s)::oD P (eM (T+7) m.1 m.2::h y) n::k::r) 0 0
  match br with
  |0=>(o [eR "__dict__" (e+2) (b+3),eR "__weakref__" (e+4) (b+4),eN (e+5)] o0 ⟨.type "type",none,.cls ⟨x,[.type "object"],[.ref (b+2),.type "object"],b+1,x,true,[],sub,false,none,false⟩,#[none,none,some (.str x T),some (.str x (T+8)),some (.builtin "object.__new__"),some (.bool true)]⟩ 4 [oG "__dict__" "function.__dict__" (.builtin "function.__dict__#set") (b+2) (e+1),oG "__weakref__" "ExceptionGroup.__weakref__" .none (b+2) (e+3),oU (b+2),oJ (b+2)],eR x (e+7) (b+2)::[],.int ln 0::.int 0 0::.ref (a+5)::[])
  |_=>(o [eN (e+1)] (oQ br) (oX x [.ref br] (.ref (b+2)::.ref br::mro) (b+1) sub a T (T+8) w) 2 [oU (b+2),oJ (b+2)],eR x (e+3) (b+2)::[],.int ln 0::.int 0 0::.ref (a+5)::[])
abbrev HB (P:Params)(nm:Str)(nt n:Nat)(l:List It):List Obj:=bo P 0::bo P 1::bo P 2::oD P (eV "__name__" 165 (.str nm nt)::eN 166::eV "__package__" 167 .none::eV "__loader__" 168 (.builtin "__main__.__loader__#opaque")::eV "__spec__" 169 .none::eR "__annotations__" 170 6::eR "__builtins__" 171 4::eV "__file__" 173 (.str "/claim/cut.py" 172)::eV "__cached__" 174 .none::l.flatMap (·.2.1)) n::bo P 4::bo P 5::bo P 6::bo P 7::bo P 8::bo P 9::bo P 10::o0::⟨.none,none,.fields (Array.mk (l.flatMap (·.2.2))),#[]⟩::oK "<module>" 182 1 11::oR 13 3 "__main__" 164::l.flatMap (·.1 P)
abbrev JX:Str×Nat:=("__main__",164)
abbrev BH:Str×Nat:=("haulbell.errors",194)
abbrev JC:Str×Nat:=("haulbell.wholes",422)
abbrev Ht:Str×Nat:=("haulbell.boxes",440)
abbrev BG:Str×Nat:=("haulbell.deeds",545)
abbrev HQ:Str×Nat:=("haulbell.machine",795)
abbrev Ig:Str×Nat:=("haulbell.hops",939)
abbrev vb:Str×Nat:=("haulbell.longs",1001)
abbrev HK:Str×Nat:=("haulbell.store",1255)
abbrev kK:Str×Nat:=("law_haulbell_k48_whole_at_the_bounds",1393)
abbrev BF (a T i:Nat)(m:Str×Nat)(x:Str)(ln:Nat)(ms:List Mt)(st:List Str)(sub:List Value:=[]):It:=iC a T i m x ln ms st sub 31 [.type "ValueError",.type "Exception",.type "BaseException",.type "object"] "ValueError.__new__"
abbrev vc (a T i:Nat)(m:Str×Nat)(x:Str)(ln:Nat)(ms:List Mt)(st:List Str)(sub:List Value:=[]):It:=iC a T i m x ln ms st sub 294 [.type "object"] "object.__new__"
abbrev zt:List It:=
iF 15 187 0 JX "_wall" ["k"] 1 1::
iE "HaulError" 213 (.ref 31)::
iR (λP=>[⟨.type "tuple",none,.seq #[.type "ValueError"] 0,#[]⟩,oP,oD P [eM 203 "haulbell.errors" 194,eQ 205 "HaulError" 204,eF 207 5 206,eS 208 29] 4,o0,oN,oK "HaulError" 198 5 25,oR 27 24 "haulbell.errors" 194,o0,oD P [eM 203 "haulbell.errors" 194,eF 207 5 206,eS 208 29,eR "__weakref__" 210 32,eN 211] 3,oX "HaulError" [.type "ValueError"] [.ref 31,.type "ValueError",.type "Exception",.type "BaseException",.type "object"] 30 [.ref 51,.ref 70,.ref 89,.ref 108,.ref 127,.ref 146,.ref 165,.ref 184] 22 196 204 "ValueError.__new__",⟨.type "getset_descriptor",none,.fields #[.str "__weakref__" 209,.ref 31,.builtin "ExceptionGroup.__weakref__",.none],#[]⟩,oU 31,oJ 31])::
BF 35 214 3 BH "NoStore" 7 [("__init__","NoStore.__init__",["self","at"],9,2,[])] ["at"]::
BF 54 239 4 BH "NoLeave" 12 [("__init__","NoLeave.__init__",["self","low","behind","word"],14,4,[])] ["behind","low","word"]::
BF 73 268 5 BH "Stop" 19 [("__init__","Stop.__init__",["self","deed","cell"],21,3,[])] ["cell","deed"]::
BF 92 295 6 BH "NoFit" 25 [("__init__","NoFit.__init__",["self","box","number"],27,3,[])] ["box","number"]::
BF 111 322 7 BH "NoBox" 31 [("__init__","NoBox.__init__",["self","box"],33,2,[])] ["box"]::
BF 130 347 8 BH "NoDeed" 36 [("__init__","NoDeed.__init__",["self","word"],38,2,[])] ["word"]::
BF 149 372 9 BH "NoRows" 41 [("__init__","NoRows.__init__",["self","at"],43,2,[])] ["at"]::
BF 168 397 10 BH "NoPlace" 46 [("__init__","NoPlace.__init__",["self","at"],48,2,[])] ["at"]::
iE "BOUND" 425 (.int 1000000000 424)::
iF 187 426 13 JC "is_whole" ["thing"] 53 1::
iF 194 433 14 JC "is_content" ["thing"] 55 1::
iE "NAMES" 448 (.ref 201)::
iR (λ_=>[oS ["here","there","left","way","sign","met"] 442])::
iF 202 449 17 Ht "is_box" ["thing"] 59 1::
iF 209 456 18 Ht "is_number" ["thing"] 61 1::
iF 216 463 19 Ht "fits" ["box","thing"] 63 2::
iC 223 471 20 Ht "Boxes" 71 [("__init__","Boxes.__init__",["self","here","there","left","way","sign","met","handed","box","number"],73,7,[(⟨.type "tuple",none,.seq #[.int 0 483,.int 0 484,.int 0 485,.int 1 486,.int 0 487,.int 0 488] 0,#[]⟩,6)]),("holds","Boxes.holds",["self","box"],80,2,[]),("give","Boxes.give",["self","box","number"],85,3,[]),("told","Boxes.told",[],92,1,[]),("copied","Boxes.copied",["self","other"],95,1,[])] ["numbers"]::
iF 271 547 22 BG "check_box" ["word","box"] 100 2::
iF 278 555 23 BG "check_number" ["word","number"] 103 2::
iC 285 563 0 BG "Deed" 106 [] [] [.ref 329,.ref 362,.ref 395,.ref 428,.ref 461,.ref 620,.ref 688,.ref 714,.ref 740,.ref 766,.ref 792,.ref 818]::
vc 299 583 25 BG "Set" 108 [("__init__","Set.__init__",["self","box","number"],110,3,[]),("step","Set.step",["self","boxes","store"],116,3,[]),("words","Set.words",["self"],120,1,[])] ["box","number"]::
vc 332 626 26 BG "Add" 122 [("__init__","Add.__init__",["self","box","number"],124,3,[]),("step","Add.step",["self","boxes","store"],130,3,[]),("words","Add.words",["self"],134,1,[])] ["box","number"]::[]
abbrev kg:List It:=
vc 365 669 27 BG "Take" 136 [("__init__","Take.__init__",["self","box","other"],138,3,[]),("step","Take.step",["self","boxes","store"],144,3,[]),("words","Take.words",["self"],148,1,[])] ["box","other"]::
vc 398 712 28 BG "Read" 150 [("__init__","Read.__init__",["self","box"],152,2,[]),("step","Read.step",["self","boxes","store"],156,3,[]),("words","Read.words",["self"],160,1,[])] ["box"]::
vc 431 753 29 BG "Write" 162 [("__init__","Write.__init__",["self","box"],164,2,[]),("step","Write.step",["self","boxes","store","number"],168,3,[]),("words","Write.words",["self"],175,1,[])] ["box"]::
iE "MOST_ROWS" 798 (.int 24 797)::
iF 464 799 32 HQ "check_rows" ["rows","at","thing"] 179 1::
iF 471 808 33 HQ "check_place" ["at","many"] 185 2::
iF 478 816 34 HQ "tried" ["deed","boxes","store","stop","refusal"] 188 3::
iC 485 827 35 HQ "Machine" 195 [("__init__","Machine.__init__",["self","rows","store","boxes","at"],197,5,[(⟨.type "tuple",none,.seq #[.int 0 839] 0,#[]⟩,1)]),("ended","Machine.ended",["self"],205,1,[]),("step_on","Machine.step_on",["self","store","by"],208,2,[]),("step","Machine.step",["self"],217,1,[]),("run","Machine.run",["self","most","steps"],220,2,[]),("why","Machine.why",["self"],230,1,[]),("state","Machine.state",["self"],233,1,[]),("leaves","Machine.leaves",["self"],236,1,[]),("leave","Machine.leave",["self","low","behind","word"],239,4,[]),("rows","Machine.rows",[],242,1,[]),("copied","Machine.copied",["self"],245,1,[])] ["at","boxes","deeds","store"]::
iE "MOST_HOPPED" 942 (.int 24 941)::
iF 575 943 38 Ig "is_many" ["thing"] 249 1::
iF 582 950 39 Ig "is_on" ["thing"] 251 1::
vc 589 957 40 Ig "Hop" 253 [("__init__","Hop.__init__",["self","many","on"],255,3,[(⟨.type "tuple",none,.seq #[.none] 0,#[]⟩,0)]),("step","Hop.step",["self","boxes","store"],261,3,[]),("words","Hop.words",["self","told"],266,1,[])] ["many","on"]::
iF 623 1003 42 vb "more" ["boxes","box","by"] 272 3::
iF 630 1012 43 vb "go_by_way" ["boxes","box"] 274 2::
iF 637 1020 44 vb "less_left" ["boxes","by"] 276 2::
iF 644 1028 45 vb "ask_put" ["store","cell"] 279 2::
iF 651 1036 46 vb "haul" ["store","source","target","content"] 282 3::
iF 658 1046 47 vb "exchange" ["store","one","other","first","second"] 285 3::
vc 665 1057 48 vb "Copy" 292 [("step","Copy.step",["self","boxes","store"],294,3,[]),("words","Copy.words",["self"],302,1,[])] []::
vc 691 1089 49 vb "Fill" 304 [("step","Fill.step",["self","boxes","store"],306,3,[]),("words","Fill.words",["self"],313,1,[])] []::[]
abbrev Fi:List It:=
vc 717 1121 50 vb "Seek" 315 [("step","Seek.step",["self","boxes","store"],317,3,[]),("words","Seek.words",["self"],328,1,[])] []::
vc 743 1153 51 vb "Match" 330 [("step","Match.step",["self","boxes","store","content"],332,3,[]),("words","Match.words",["self"],345,1,[])] []::
vc 769 1186 52 vb "Shift" 347 [("step","Shift.step",["self","boxes","store","left","here","there"],349,3,[]),("words","Shift.words",["self"],363,1,[])] []::
vc 795 1221 53 vb "Turn" 365 [("step","Turn.step",["self","boxes","store","left","here"],367,3,[]),("words","Turn.words",["self"],378,1,[])] []::
iE "MOST_CELLS" 1258 (.int 60 1257)::
iE "LEAVES" 1262 (.ref 821)::
iR (λ_=>[oS ["open","look","shut"] 1259])::
iF 822 1263 57 HK "check_cells" ["cells","at","thing"] 383 1::
iF 829 1272 58 HK "is_leave" ["word"] 389 1::
iF 836 1279 59 HK "is_within" ["low","behind","size"] 391 3::
iC 843 1288 60 HK "Store" 393 [("__init__","Store.__init__",["self","cells"],395,2,[]),("size","Store.size",["self"],400,1,[]),("told","Store.told",["self"],403,1,[]),("leaves","Store.leaves",["self"],406,1,[]),("leave","Store.leave",["self","low","behind","word","cell"],409,4,[]),("may","Store.may",["self","deed","cell"],415,3,[]),("look","Store.look",["self","cell"],422,2,[]),("put","Store.put",["self","cell","content"],427,3,[]),("restore","Store.restore",["self","cell","content"],432,3,[]),("copied","Store.copied",["self","other"],435,1,[])] ["contents","permits"]::
iF 927 1395 62 kK "_law_hand" ["_law_script","_law_cells","_law_fold","_law_cell"] 441 1::
iF 934 1405 63 kK "_law_draw" ["_law_hand_here","_law_many","_law_rest","_law_cell","_law_one","_law_two"] 447 2::
iF 941 1417 64 kK "_law_content" ["_law_hand_here","_law_way"] 463 1::
iF 948 1425 65 kK "_law_leaves" ["_law_hand_here","_law_many","_law_leaves_here","_law_k","_law_word","_law_low","_law_cell"] 472 2::
iF 955 1438 66 kK "_law_whole" ["_law_thing"] 480 1::
iF 962 1445 67 kK "_law_deed" ["_law_spec","_law_word"] 482 1::
iF 969 1453 68 kK "_law_long" ["_law_word"] 497 1::
iF 976 1460 69 kK "_law_let" ["_law_leaves_here","_law_deed_here","_law_cell"] 509 3::
iF 983 1469 70 kK "_law_reach" ["_law_spec","_law_boxes","_law_here","_law_there","_law_left","_law_word","_law_far"] 513 2::
iF 990 1482 71 kK "_law_fits" ["_law_box","_law_number"] 536 2::
iF 997 1490 72 kK "_law_barred" ["_law_spec","_law_boxes","_law_leaves_here","_law_looks","_law_puts","_law_cell"] 544 3::
iF 1004 1502 73 kK "_law_step" ["_law_spec","_law_boxes","_law_cells","_law_leaves_here","_law_barred_here","_law_word","_law_number"] 555 4::
iF 1011 1515 74 kK "_law_moved" ["_law_word","_law_boxes","_law_cells","_law_here","_law_there","_law_left","_law_way","_law_size","_law_content_here"] 578 3::
iF 1018 1530 75 kK "_law_looked" ["_law_word","_law_boxes","_law_cells","_law_here","_law_there","_law_left","_law_way","_law_other"] 607 3::
iF 1025 1544 76 kK "_law_made" [] 625 5::
iF 1030 1550 77 kK "_law_goes" ["_law_specs","_law_world","_law_told"] 632 2::
iF 1037 1559 78 kK "_law_stands" [] 640 2::
iF 1042 1565 79 kK "_law_copied" ["_law_world"] 649 1::
iF 1049 1572 80 kK "_law_rows" ["_law_hand_here","_law_specs","_law_k","_law_left","_law_box"] 651 1::
iF 1056 1583 81 kK "_law_done" ["_law_specs","_law_world","_law_most","_law_done_here"] 660 3::[]
abbrev Km (P:Params):List Obj:=oW [(12,⟨.none,none,.fields (IH Jp),#[]⟩),(294,⟨.type "type",none,.cls ⟨"Deed",[.type "object"],[.ref 294,.type "object"],293,"Deed",true,[],[.ref 329,.ref 362],false,none,false⟩,#[none,none,some (.str "Deed" 563),some (.str "Deed" 571),some (.builtin "object.__new__"),some (.bool true)]⟩)] (HB P "haulbell.deeds" 545 32 zt)
abbrev Kk (P:Params):List Obj:=oW [(12,⟨.none,none,.fields (IH JK),#[]⟩),(294,⟨.type "type",none,.cls ⟨"Deed",[.type "object"],[.ref 294,.type "object"],293,"Deed",true,[],[.ref 329,.ref 362,.ref 395,.ref 428,.ref 461,.ref 620,.ref 688,.ref 714],false,none,false⟩,#[none,none,some (.str "Deed" 563),some (.str "Deed" 571),some (.builtin "object.__new__"),some (.bool true)]⟩)] (HB P "haulbell.longs" 1001 52 (zt++kg))
abbrev JS (P:Params):List Obj:=oW [(12,⟨.none,none,.fields (IH Kb),#[]⟩)] (HB P "law_haulbell_k48_whole_at_the_bounds" 1393 82 (zt++kg++Fi))
abbrev S0 (P:Params)(os:OsState):SharedT:=⟨EO 0 .nil (JU P),15,(boot_heap P).life,Array.mk [],boot_drawn,187,os⟩
abbrev q0:Pos:=⟨0,0,0,0⟩
abbrev S1 (P:Params)(os:OsState):SharedT:=⟨EO 0 .nil (Km P),365,(boot_heap P).life,Array.mk [],boot_drawn,669,os⟩
abbrev q1:Pos:=⟨122,0,135,50⟩
abbrev S2 (P:Params)(os:OsState):SharedT:=⟨EO 0 .nil (Kk P),717,(boot_heap P).life,Array.mk [],boot_drawn,1121,os⟩
abbrev q2:Pos:=⟨304,0,314,23⟩
abbrev S3 (P:Params)(os:OsState):SharedT:=⟨EO 0 .nil (JS P),1063,(boot_heap P).life,Array.mk [],boot_drawn,1593,os⟩
abbrev q3:Pos:=⟨660,0,664,25⟩
abbrev Ki (P:Params):List Obj:=HB P "law_haulbell_k48_whole_at_the_bounds" 1393 83 (zt++kg++Fi++[iF 1063 1593 82 kK "law" [] 665 1])
abbrev K0 (P:Params):PySem.W.Frag:=Hy.map λa=>(a,(Ki P).getD a oN)
abbrev pN (p:Program):Program:=PySem.W.view p [82]
abbrev vA:List Str:="_wall"::"HaulError"::"NoStore"::"NoLeave"::"Stop"::"NoFit"::"NoBox"::"NoDeed"::"NoRows"::"NoPlace"::"BOUND"::"is_whole"::"is_content"::"NAMES"::"is_box"::"is_number"::"fits"::"Boxes"::"check_box"::"check_number"::"Deed"::"Set"::"Add"::"Take"::"Read"::"Write"::"MOST_ROWS"::"check_rows"::"check_place"::"tried"::"Machine"::"MOST_HOPPED"::"is_many"::"is_on"::"Hop"::"more"::"go_by_way"::"less_left"::"ask_put"::"haul"::"exchange"::"Copy"::"Fill"::"Seek"::"Match"::"Shift"::"Turn"::"MOST_CELLS"::"LEAVES"::"check_cells"::"is_leave"::"is_within"::"Store"::"_law_hand"::"_law_draw"::"_law_content"::"_law_leaves"::"_law_whole"::"_law_deed"::"_law_long"::"_law_let"::"_law_reach"::"_law_fits"::"_law_barred"::"_law_step"::"_law_moved"::"_law_looked"::"_law_made"::"_law_goes"::"_law_stands"::"_law_copied"::"_law_rows"::"_law_done"::[]
end My
open PySem PySem.W in
set_option maxHeartbeats 0 in
def My.ED (w:World)(os:OsState):My.runK treeTable My.pr w 11 (some (.ref 6)) 12 (My.HJ w.params os) (topStub My.pr)=some (My.S0 w.params os,⟨denote treeTable (.body (ac My.pr) (My.gW My.pr)),.body (ac My.pr) (My.gW My.pr),default,[My.JL]⟩):=by
  delta My.pr;rewrite[Fast.te2368527892694137696,Fast.te14364793385576792824]
  kernel_rfl
open PySem PySem.W in
set_option maxHeartbeats 0 in
def My.Ez (w:World)(os:OsState)(B:List Stmt):My.runK treeTable My.pr w 11 (some (.ref 6)) 3624 (My.S0 w.params os) (My.jF My.pr (((ac My.pr).drop 0).take 27++B) My.q0)=some (My.S1 w.params os,My.jF My.pr B My.q1):=by
  delta My.pr;rewrite[Fast.te2368527892694137696,Fast.te14364793385576792824]
  kernel_rfl
open PySem PySem.W in
set_option maxHeartbeats 0 in
def My.Cr (w:World)(os:OsState)(B:List Stmt):My.runK treeTable My.pr w 11 (some (.ref 6)) 2722 (My.S1 w.params os) (My.jF My.pr (((ac My.pr).drop 27).take 23++B) My.q1)=some (My.S2 w.params os,My.jF My.pr B My.q2):=by
  delta My.pr;rewrite[Fast.te2368527892694137696,Fast.te14364793385576792824]
  kernel_rfl
open PySem PySem.W in
set_option maxHeartbeats 0 in
def My.DR (w:World)(os:OsState)(B:List Stmt):My.runK treeTable My.pr w 11 (some (.ref 6)) 2389 (My.S2 w.params os) (My.jF My.pr (((ac My.pr).drop 50).take 32++B) My.q2)=some (My.S3 w.params os,My.jF My.pr B My.q3):=by
  delta My.pr;rewrite[Fast.te2368527892694137696,Fast.te14364793385576792824]
  kernel_rfl
open PySem PySem.W in
set_option maxHeartbeats 0 in
def My.Fv:LeftO My.pr (My.pN My.pr) My.vA (λs=>xlAt (My.pN My.pr) [] s&&recOk PySem.Challenge.rw_haulbell_k48_whole_at_the_bounds.row.records s) (λs=>My.Hy.map s.heap.get?) (λw=>(My.K0 w.params).map λp=>some p.2) 17648:=by
  refine My.tQ (by kernel_rfl) rfl (λ_=>by kernel_rfl) (λ_=>by kernel_rfl) (λ_=>by kernel_rfl) λw os=>?_
  have d:denote treeTable (.body (ac My.pr) (My.gW My.pr))=My.yU My.pr (ac My.pr):=My.yw (by kernel_rfl);have e:My.ky treeTable My.pr w 11 (some (.ref 6)) (12+(3624+(2722+(2389+(8901))))) (My.HJ w.params os) (topStub My.pr)=My.ky treeTable My.pr w 11 (some (.ref 6)) 8901 (My.S3 w.params os) (My.jF My.pr ((ac My.pr).drop 82) My.q3):=by
    rw[My.cL (My.ED w os)];dsimp only;rw[d];show My.ky treeTable My.pr w 11 (some (.ref 6)) _ (My.S0 w.params os) (My.jF My.pr ((ac My.pr).drop 0) My.q0)=_;rw[show(ac My.pr).drop 0=((ac My.pr).drop 0).take 27++(ac My.pr).drop 27 from by
      rw[show(ac My.pr).drop 27=((ac My.pr).drop 0).drop 27 by rw[List.drop_drop],List.take_append_drop],My.cL (My.Ez w os _)]
    rw[show(ac My.pr).drop 27=((ac My.pr).drop 27).take 23++(ac My.pr).drop 50 from by
      rw[show(ac My.pr).drop 50=((ac My.pr).drop 27).drop 23 by rw[List.drop_drop],List.take_append_drop],My.cL (My.Cr w os _)]
    rw[show(ac My.pr).drop 50=((ac My.pr).drop 50).take 32++(ac My.pr).drop 82 from by
      rw[show(ac My.pr).drop 82=((ac My.pr).drop 50).drop 32 by rw[List.drop_drop],List.take_append_drop],My.cL (My.DR w os _)]
  rw[show(17648:Nat)=12+(3624+(2722+(2389+(8901)))) from rfl,e]
  delta My.pr;rewrite[Fast.te4187177175401517315,Fast.te5923862056798008813,Fast.te2368527892694137696,Fast.te14364793385576792824]
  kernel_rfl
set_option Elab.async false
open List(mem_range filterMap_cons mem_cons_self mem_cons_of_mem mem_cons mem_append mem_append_left getElem?_set_self getElem?_set_ne mem_append_right size_toArray any_eq_false length_cons map_cons length_map append_nil nodup_cons of_mem_zip length_take getElem?_map take_sublist mem_of_getElem? length_append length_replicate length_drop length_set all_cons any_cons replicate_succ flatten_cons append_assoc foldl_cons length_singleton nil_append find?_cons length_nil forIn_cons forIn_nil getElem?_eq_getElem getElem_mem drop_zero lookup_cons not_mem_nil length_zip set_comm all_eq_true length_eq_zero_iff zip_cons_cons zip_append take_append_drop isEmpty_iff take_succ map_append)
@[reducible]def KC:Type:=Unit->PySem.Shared->Prop
@[reducible]def KD:Type:=PySem.Value->PySem.Shared->Prop
@[reducible]def KG:Type:=List (PySem.Addr×PySem.Obj)
@[reducible]def KH:Type:=PySem.Str->Option PySem.Value
namespace L2
open PySem PySem.Spec PyProof.Rows
@[reducible]def Key:=Sum Int Str
abbrev lq:Key->Value->Bool
 | .inl k,v=>Value.isInt k v
 | .inr x,v=>Value.isStrOf x v
abbrev IM (w:World):Key->Int
 | .inl k=>hashInt k
 | .inr x=>hashStr w x
def aF:∀ {k:Key}{v:Value},lq k v=true->(∃ i t,k=Sum.inl i/\v=Value.int i t)\/(∃ x t,k=Sum.inr x/\v=Value.str x t)
 | .inl i,v,h=>by
  obtain⟨t,e⟩:=Value.isInt_shape (k:=i) (v:=v) h;exact .inl ⟨i,t,rfl,e⟩
 | .inr x,v,h=>by
  obtain⟨t,e⟩:=Value.isStrOf_shape (x:=x) (v:=v) h;exact .inr ⟨x,t,rfl,e⟩
def uU (i:Int)(t:Tok):lq (.inl i) (.int i t)=true:=by simp[lq,Value.isInt]
def uP (x:Str)(t:Tok):lq (.inr x) (.str x t)=true:=by simp[lq,Value.isStrOf]
def Di (a b:Int):decide ((Sum.inl a:Key)=Sum.inl b)=(a ==b):=by
 by_cases e:a=b
 .subst e;simp
 .have h:¬ (Sum.inl a:Key)=Sum.inl b:=λq=>e (Sum.inl.inj q)
  rw[decide_eq_false h];exact(beq_eq_false_iff_ne.mpr e).symm
def EH (a b:Str):decide ((Sum.inr a:Key)=Sum.inr b)=decide (a=b):=by
 by_cases e:a=b
 .subst e;simp
 .have h:¬ (Sum.inr a:Key)=Sum.inr b:=λq=>e (Sum.inr.inj q)
  rw[decide_eq_false h,decide_eq_false e]
def EI (a:Int)(b:Str):decide ((Sum.inl a:Key)=Sum.inr b)=false:=decide_eq_false (λq=>nomatch q)
def CJ (a:Str)(b:Int):decide ((Sum.inr a:Key)=Sum.inl b)=false:=decide_eq_false (λq=>nomatch q)
abbrev au (prog:Program)(w:World):PySem.KeyKind prog w Key where
 is:=lq
 hash:=IM w
 inj:=λv a b ha hb=>by
  rcases aF ha with⟨i,t,rfl,rfl⟩|⟨x,t,rfl,rfl⟩
  .rcases aF hb with⟨j,u,rfl,e⟩|⟨y,u,rfl,e⟩
   .injection e with e1 _;rw[e1]
   .exact nomatch e
  .rcases aF hb with⟨j,u,rfl,e⟩|⟨y,u,rfl,e⟩
   .exact nomatch e
   .injection e with e1 _;rw[e1]
 byValue:=λk v h=>by
  rcases aF h with⟨i,t,rfl,rfl⟩|⟨x,t,rfl,rfl⟩<;>rfl
 pyHash:=λhv h=>by
  rcases aF hv with⟨i,t,rfl,rfl⟩|⟨x,t,rfl,rfl⟩
  .exact wpAny_pyHash_int h
  .exact wpAny_pyHash_str h
 eqBool:=λhu hv h=>by
  rcases aF hu with⟨i,t,rfl,rfl⟩|⟨x,t,rfl,rfl⟩
  .rcases aF hv with⟨j,u,rfl,rfl⟩|⟨y,u,rfl,rfl⟩
   .rw[Di]at h;exact wpAny_eqBool_int h
   .rw[EI]at h;exact SeqAt.EqAt.int_str i t y u _ _ _ _ h
  .rcases aF hv with⟨j,u,rfl,rfl⟩|⟨y,u,rfl,rfl⟩
   .rw[CJ]at h;exact SeqAt.EqAt.str_int x t j u _ _ _ _ h
   .rw[EH]at h;exact wpAny_eqBool_str h
 «strs»:=λk x t v h=>by
  rcases aF h with⟨i,u,rfl,e⟩|⟨y,u,rfl,e⟩
  .exact nomatch e
  .injection e with e1 _
   subst e1;cases v<;>rfl
def pS (prog:Program)(w:World)(i:Int)(t:Tok):(au prog w).is (.inl i) (.int i t)=true:=uU i t
def n9 (prog:Program)(w:World)(x:Str)(t:Tok):(au prog w).is (.inr x) (.str x t)=true:=uP x t
inductive V where
 |non|bl (b:Bool)|int (i:Int)|str (x:Str)|byt (b:Array UInt8)|flt (b:UInt64)|ref (a:Addr)|ty (n:String)
 deriving DecidableEq
abbrev RelV:V->Value->Prop
 | .non,u=>u=Value.none
 | .bl b,u=>u=Value.bool b
 | .int i,u=>∃ t,u=Value.int i t
 | .str x,u=>∃ t,u=Value.str x t
 | .byt b,u=>∃ t,u=Value.bytes b t
 | .flt b,u=>∃ t,u=Value.float b t
 | .ref a,u=>u=Value.ref a
 | .ty n,u=>u=Value.type n
@[reducible]def Vals:List V->List Value->Prop:=Paired RelV
variable {xs:List V}{us:List Value}
def Vals.length (r:Vals xs us):xs.length=us.length:=Paired.length r
def Vals.get:∀ {xs:List V}{us:List Value}{i:Nat}{x:V},Vals xs us->xs[i]? =some x->∃ u,us[i]? =some u/\RelV x u
 |_,_,_,_,.nil,e=>by simp at e
 |_,_,0,_,.cons r _,e=>by simp at e;subst e;exact⟨_,rfl,r⟩
 |_,_,i+1,x,.cons _ t,e=>by
  obtain⟨u,h1,h2⟩:=Vals.get (i:=i) (x:=x) t (by simpa using e);exact⟨u,by simpa using h1,h2⟩
variable {u:Value}
def Vals.set {x:V}(r:RelV x u):∀ {xs:List V}{us:List Value}(i:Nat),Vals xs us->Vals (xs.set i x) (us.set i u)
 |_,_,_,.nil=>.nil
 |_,_,0,.cons _ t=>.cons r t
 |_,_,i+1,.cons q t=>.cons q (Vals.set r i t)
def Vals.append:∀ {xs ys:List V}{us ws:List Value},Vals xs us->Vals ys ws->Vals (xs++ys) (us++ws)
 |_,_,_,_,.nil,s=>s
 |_,_,_,_,.cons r t,s=>.cons r (Vals.append t s)
def Vals.take:∀ {xs:List V}{us:List Value}(n:Nat),Vals xs us->Vals (xs.take n) (us.take n)
 |_,_,0,_=>.nil
 |_,_,_+1,.nil=>.nil
 |_,_,n+1,.cons r t=>.cons r (Vals.take n t)
def Vals.drop:∀ {xs:List V}{us:List Value}(n:Nat),Vals xs us->Vals (xs.drop n) (us.drop n)
 |_,_,0,r=>r
 |_,_,_+1,.nil=>.nil
 |_,_,n+1,.cons _ t=>Vals.drop n t
abbrev cP:Option V->Option Value->Prop
 |some v,some u=>RelV v u
 |none,none=>True
 |_,_=>False
abbrev KV {κ:Type}:List (κ×V)->List (κ×Value)->Prop:=Paired λ(p:κ×V) (q:κ×Value)=>p.1=q.1/\RelV p.2 q.2
abbrev kV:Key->V
 | .inl i=>.int i
 | .inr x=>.str x
inductive HO where
  |lst (xs:List V)
  |tup (xs:List V)
  |dK (kvs:List (Key×V))|dT (kvs:List (List Key×V))
  |set (S:Int->Bool) (n:Nat)
  |ins (C dx:Addr) (fs:List (Str×V))
  |own (x:Addr)
  |exc (C:Addr) (dx:Option Addr) (fs:List (Str×V)) (fr:Bool)
  |xd (fs:List (Str×V))
  |met (f x:Addr)
  |rng (lo hi:Int)
  |iY (o:Obj) (u:HO)
  |tbl (ps:Array Value)
  |ext (φ:Heap->Prop)
@[reducible]def Hp:=Addr->Option HO
abbrev upd (H:Hp)(a:Addr)(o:HO):Hp:=λb=>if b=a then some o else H b
variable {H:Hp}{a:Addr}{o:HO}
def av:upd H a o a=some o:=by unfold upd;rw[if_pos rfl]
variable {b:Addr}
def af (h:b≠a):upd H a o b=H b:=by unfold upd;rw[if_neg h]
def Ay {u:HO}:upd (upd H a o) a u=upd H a u:=by
 funext b;unfold upd;split<;>rfl
def FK {u:HO}(h:H a=some o)(h':H b=some u)(d:o≠u):a≠b:=by
 intro e;subst e;rw[h]at h';exact d (Option.some.inj h')
def aL (h:H a=some o)(h':H b=none):a≠b:=by
 intro e;subst e;rw[h]at h';cases h'
section
variable (P:Program) (w:World)
abbrev aC (H:Hp)(h:Heap)(a:Addr):HO->Prop
 | .lst xs=>xs.length<=bn/\∃ (its:List Value) (n:Nat),Vals xs its/\h.get? a=some { cls:=.type "list",data:=.seq its.toArray n }
 | .tup xs=>xs.length<=bn/\∃ its:List Value,Vals xs its/\IsTup h a its.toArray
 | .dK kvs=>kvs.length<=bn/\(a ==sysModules)=false/\∃ vs,KV kvs vs/\h.DictOf (au P w) a vs
 | .dT kvs=>kvs.length<=bn/\(a ==sysModules)=false/\∃ xs:List (List Key×Addr×Value),
   Paired (λ(p:List Key×V) (q:List Key×Addr×Value)=>p.1=q.1/\H q.2.1=some (.tup (p.1.map kV))/\RelV p.2 q.2.2) kvs xs/\
   ∃ o es ep,h.get? a=some o/\o.ExactDict/\o.data=.dict es ep/\es.toList=xs.map (entryOfKey (tupleKind (au P w)))/\(xs.map (·.1)).Nodup
 | .set S n=>h.SetOf (intKind P w) a S n
 | .ins C dx fs=>H dx=some (.own a)/\fs.length<=1000/\dx≠a/\h.get? a=some (W.instObj C dx)/\
   ∃ mA,h.Ns1 dx mA/\(∀ f,cP (fs.lookup f) (mA f))/\PySem.Within mA (fs.map (·.1))
 | .exc C dx fs fr=>(∃ vs,h.get? a=some { cls:=.ref C,dict:=dx,data:=.fields vs }/\vs.size=6/\(fr=true->vs[1]? =some Value.none))/\
   ((dx=none/\fs=[])\/∃ d,dx=some d/\H d=some (.own a)/\fs.length<=1000/\d≠a/\∃ mA,h.Ns1 d mA/\(∀ f,cP (fs.lookup f) (mA f))/\PySem.Within mA (fs.map (·.1)))
 | .own _=>∃ o,h.get? a=some o
 | .xd fs=>∃ mA,h.Ns1 a mA/\∀ f,cP (fs.lookup f) (mA f)
 | .rng lo hi=>∃ t u v,h.get? a=some { cls:=.type "range",data:=.fields #[.int lo t,.int hi u,.int 1 v] }
 | .iY o u=>h.get? a=some o/\aC H h a u
 | .tbl ps=>h.get? a=some { cls:=.none,data:=.fields ps }
 | .met f x=>h.get? a=some (W.methodObj (.ref f) (.ref x))
 | .ext φ=>φ h/\(∃ o,h.get? a=some o)/\∀ h1 h2:Heap,φ h1->(∀ o,h1.get? a=some o->h2.get? a=some o)->φ h2
abbrev fu (H:Hp)(h:Heap):Prop:=∀ a o,H a=some o->aC P w H h a o
end
section
variable {P:Program}{w:World}{H H':Hp}{h h':Heap}{a:Addr}{o:HO}
def aC.lt (x:aC P w H h a o):a<h.objs.size:=by
 cases o with
 |lst xs=>obtain⟨_,_,_,_,e⟩:=x;exact sK e
 |tup xs=>obtain⟨_,_,_,p⟩:=x;exact p.lt
 |dK kvs=>obtain⟨_,_,_,_,o,_,_,e,_⟩:=x;exact sK e
 |dT kvs=>obtain⟨_,_,_,_,o,_,_,e,_⟩:=x;exact sK e
 |set S n=>obtain⟨o,_,_,_,e,_⟩:=x;exact sK e
 |ins C dx fs=>obtain⟨_,_,_,e,_⟩:=x;exact sK e
 |exc C dx fs fr=>obtain⟨⟨_,e,_⟩,_⟩:=x;exact sK e
 |own y=>obtain⟨_,e⟩:=x;exact sK e
 |xd fs=>obtain⟨_,⟨_,_,_,e,_⟩,_⟩:=x;exact sK e
 |rng lo hi=>obtain⟨_,_,_,e⟩:=x;exact sK e
 |iY ob u=>obtain⟨e,_⟩:=x;exact sK e
 |tbl ps=>exact sK (show h.get? a=some _ from x)
 |met f y=>exact sK (show h.get? a=some _ from x)
 |ext φ=>obtain⟨_,⟨_,e⟩,_⟩:=x;exact sK e
def Paired.CL {α β:Type}{F G:α->β->Prop}:∀ {l₁:List α}{l₂:List β},Paired F l₁ l₂->(∀ a b,F a b->G a b)->Paired G l₁ l₂
 |_,_,.nil,_=>.nil
 |_,_,.cons r t,f=>.cons (f _ _ r) (Paired.CL t f)
def aC.eC (x:aC P w H h a o)(k:∀ b u,(b=a\/H b=some (.own a))->h.get? b=some u->h'.get? b=some u)
  (ho:∀ b,H b=some (.own a)->H' b=some (.own a)) (ht:∀ b xs,H b=some (.tup xs)->H' b=some (.tup xs)):aC P w H' h' a o:=by
 induction o with
 |lst xs=>obtain⟨z,its,n,r,e⟩:=x;exact⟨z,its,n,r,k _ _ (.inl rfl) e⟩
 |tup xs=>obtain⟨z,its,r,ob,e,c⟩:=x;exact⟨z,its,r,ob,k _ _ (.inl rfl) e,c⟩
 |dK kvs=>obtain⟨z,y,vs,r,ob,es,ep,e,c⟩:=x;exact⟨z,y,vs,r,ob,es,ep,k _ _ (.inl rfl) e,c⟩
 |dT kvs=>
  obtain⟨z,y,xs,r,ob,es,ep,e,c⟩:=x;exact⟨z,y,xs,Paired.CL r λp q z=>⟨z.1,ht _ _ z.2.1,z.2.2⟩,ob,es,ep,k _ _ (.inl rfl) e,c⟩
 |set S n=>obtain⟨ob,es,ep,t,e,c⟩:=x;exact⟨ob,es,ep,t,k _ _ (.inl rfl) e,c⟩
 |ins C dx fs=>
  obtain⟨d,z,ne,e,mA,⟨od,es,ep,e2,c⟩,r⟩:=x;exact⟨ho _ d,z,ne,k _ _ (.inl rfl) e,mA,⟨od,es,ep,k _ _ (.inr d) e2,c⟩,r⟩
 |exc C dx fs fr=>
  obtain⟨⟨vs,e,z⟩,q⟩:=x;refine⟨⟨vs,k _ _ (.inl rfl) e,z⟩,?_⟩;rcases q with q|⟨d,ed,d1,z1,ne,mA,⟨od,es,ep,e2,c⟩,r⟩
  .exact .inl q
  .exact .inr ⟨d,ed,ho _ d1,z1,ne,mA,⟨od,es,ep,k _ _ (.inr d1) e2,c⟩,r⟩
 |own y=>obtain⟨ob,e⟩:=x;exact⟨ob,k _ _ (.inl rfl) e⟩
 |xd fs=>obtain⟨mA,⟨od,es,ep,e,c⟩,r⟩:=x;exact⟨mA,⟨od,es,ep,k _ _ (.inl rfl) e,c⟩,r⟩
 |rng lo hi=>obtain⟨t,u,v,e⟩:=x;exact⟨t,u,v,k _ _ (.inl rfl) e⟩
 |iY ob u ih=>obtain⟨e,q⟩:=x;exact⟨k _ _ (.inl rfl) e,ih q⟩
 |tbl ps=>
  have e:h.get? a=some { cls:=.none,data:=.fields ps }:=x;show h'.get? a=some { cls:=.none,data:=.fields ps };exact k a _ (.inl rfl) e
 |met f y=>
  have e:h.get? a=some (W.methodObj (.ref f) (.ref y)):=x;show h'.get? a=some (W.methodObj (.ref f) (.ref y));exact k a _ (.inl rfl) e
 |ext φ=>obtain⟨p,⟨o,e⟩,st⟩:=x;exact⟨st _ _ p λo q=>k _ _ (.inl rfl) q,⟨o,k _ _ (.inl rfl) e⟩,st⟩
def fu.lt (x:fu P w H h)(e:H a=some o):a<h.objs.size:=(x a o e).lt
def fu.fresh (x:fu P w H h)(e:h.objs.size<=a):H a=none:=by
 cases q:H a with
 |none=>rfl
 |some u=>exact absurd (nl (x.lt q) e) (Nat.lt_irrefl _)
def fu.kept (x:fu P w H h)(k:∀ b u,h.get? b=some u->h'.get? b=some u):fu P w H h':=λa o e=>
 (x a o e).eC (λb u _ q=>k b u q) (λ_ q=>q) λ_ _ q=>q
def fu.laid (x:fu P w H h)(k:∀ b u,h.get? b=some u->h'.get? b=some u) (hp:h.objs.size<=a) (new:aC P w (upd H a o) h' a o):fu P w (upd H a o) h':=λb u e=>by
 have hn:=x.fresh hp
 by_cases hb:b=a
 .subst hb;rw[av]at e;cases e;exact new
 .rw[af hb]at e;exact(x b u e).eC (λc v _ q=>k c v q) (λc q=>by rw[af (aL q hn)];exact q) λc xs q=>by rw[af (aL q hn)];exact q
end
abbrev Rd (H:Hp)(a:Addr)(u:HO):Prop:=H a=some u\/∃ o,H a=some (.iY o u)
variable {P:Program}{w:World}{h:Heap}
def Rd.ok {u:HO}(r:Rd H a u)(x:fu P w H h):aC P w H h a u:=by
 rcases r with r|⟨o,r⟩
 .exact x a u r
 .obtain⟨_,q⟩:=x a _ r;exact q
abbrev Fy:Option HO->Prop
 |some (.lst _)=>True
 |some (.dK _)=>True
 |some (.dT _)=>True
 |some (.set _ _)=>True
 |some (.ins _ _ _)=>True
 |some (.exc _ _ _ _)=>True
 |some (.ext _)=>True
 |_=>False
section
variable {P:Program}{w:World}{H:Hp}{h h':Heap}{x e:Addr}{o':HO}
def fu.write (ok:fu P w H h)(mu:Fy (H x))(he:e=x\/H e=some (.own x))(k:∀ b u,b≠e->h.get? b=some u->h'.get? b=some u) (heo:∃ u,h'.get? e=some u)
  (new:aC P w (upd H x o') h' x o'):fu P w (upd H x o') h':=λb u q=>by
 have nown:∀ c y,H c=some (.own y)->c≠x:=λc y r z=>by subst z;rw[r]at mu;exact mu
 have ntup:∀ c xs,H c=some (.tup xs)->c≠x:=λc xs r z=>by subst z;rw[r]at mu;exact mu
 by_cases hb:b=x
 .subst hb;rw[av]at q;cases q;exact new
 .rw[af hb]at q
  by_cases hbe:b=e
  .have q':H b=some (.own x):=by
    rcases he with z|z
    .exact absurd (hbe.trans z) hb
    .rw[hbe];exact z
   rw[q]at q';cases q';obtain⟨v,hv⟩:=heo;exact⟨v,by rw[hbe];exact hv⟩
  .refine(ok b u q).eC (λc v hc r=>k c v ?_ r) (λc r=>by rw[af (nown c b r)];exact r) λc xs r=>by rw[af (ntup c xs r)];exact r
   rcases hc with rfl|hc
   .exact hbe
   .rintro rfl;rcases he with z|z
    .exact nown c b hc z
    .rw[hc]at z;cases z;exact hb rfl
end
structure Un (fs ex:List Addr) (H H':Hp) (h h':Heap):Prop where
 keep:∀ b o,h.get? b=some o->H b=none->b ∉ fs->b ∉ ex->h'.get? b=some o
 slot:∀ b o,h.get? b=some o->H b=none->b ∈ fs->b ∉ ex->∃ sl,h'.get? b=some { o with slots:=sl }
 free:∀ b o,h.get? b=some o->H b=none->b ∉ ex->H' b=none
 there:∀ b o,h.get? b=some o->b ∉ ex->∃ o',h'.get? b=some o'
 tups:∀ b xs,H b=some (.tup xs)->H' b=some (.tup xs)
 frzs:∀ b o u,H b=some (.iY o u)->H' b=some (.iY o u)
 tbls:∀ b ps,H b=some (.tbl ps)->∃ more,H' b=some (.tbl (ps++more))
section
variable {fs fs' ex ex':List Addr}{H H1 H2:Hp}{h h1 h2 h':Heap}{a x e:Addr}{o:HO}
def Un.any (u:Un fs ex H H1 h h1){ob:Obj}(q:h.get? b=some ob)(n:H b=none)(hx:b ∉ ex):∃ sl,h1.get? b=some { ob with slots:=sl }:=by
 by_cases hb:b ∈ fs
 .exact u.slot b ob q n hb hx
 .exact⟨ob.slots,u.keep b ob q n hb hx⟩
def Un.kept (k:∀ b u,h.get? b=some u->h'.get? b=some u):Un fs ex H H h h':=
 ⟨λb ob q _ _ _=>k b ob q,λb ob q _ _ _=>⟨ob.slots,k b ob q⟩,λ_ _ _ n _=>n,λb ob q _=>⟨ob,k b ob q⟩,λ_ _ q=>q,λ_ _ _ q=>q,λ_ ps q=>⟨#[],by rw[q];simp⟩⟩
def Un.refl:Un fs ex H H h h:=Un.kept λ_ _ q=>q
def Un.laid (k:∀ b u,h.get? b=some u->h'.get? b=some u) (hp:h.objs.size<=a) (hn:H a=none):Un fs ex H (upd H a o) h h' where
 keep:=λb u q _ _ _=>k b u q
 slot:=λb u q _ _ _=>⟨u.slots,k b u q⟩
 free:=λb u q n _=>by rw[af (ol (nl (sK q) hp))];exact n
 there:=λb u q _=>⟨u,k b u q⟩
 tups:=λb xs q=>by rw[af (aL q hn)];exact q
 frzs:=λb u xs q=>by rw[af (aL q hn)];exact q
 tbls:=λb ps q=>⟨#[],by rw[af (aL q hn),q];simp⟩
def Un.write (mu:Fy (H x))(he:e=x\/H e=some (.own x))(k:∀ b u,b≠e->h.get? b=some u->h'.get? b=some u) (heo:∃ u,h'.get? e=some u):Un fs ex H (upd H x o) h h':=by
 have hx:∀ b,H b=none->b≠x:=λb n z=>by subst z;rw[n]at mu;exact mu
 have hb:∀ b,H b=none->b≠e:=λb n z=>by
  subst z;rcases he with r|r
  .exact hx b n r
  .rw[n]at r;cases r
 have hm:∀ b u,H b=some u->¬ Fy (some u)->b≠x:=λb u q nm z=>by subst z;rw[q]at mu;exact nm mu
 refine⟨λb u q n _ _=>k b u (hb b n) q,λb u q n _ _=>⟨u.slots,k b u (hb b n) q⟩,λb u q n _=>by rw[af (hx b n)];exact n,λb u q _=>?_,
  λb xs q=>by rw[af (hm b _ q λz=>z)];exact q,λb u xs q=>by rw[af (hm b _ q λz=>z)];exact q,λb ps q=>⟨#[],by rw[af (hm b _ q λz=>z),q];simp⟩⟩
 by_cases hbe:b=e
 .subst hbe;exact heo
 .exact⟨u,k b u hbe q⟩
end
abbrev BE (h:Heap)(H:Hp):List Addr:=(List.range h.objs.size).filter λa=>(H a).isSome
abbrev lS (h:Heap)(H:Hp):Heap:=W.hideAll h (BE h H)
def uk (h:Heap)(H:Hp):(lS h H).objs.size=h.objs.size:=W.hideAll_size _ _
def xf {o:Obj}(e:h.get? b=some o)(n:H b=none):(lS h H).get? b=some o:=
 W.hideAll_get _ e λhm=>by
  have q:(H b).isSome=true:=(List.mem_filter.mp hm).2;rw[n]at q;simp at q
def AE {o:Obj}(e:(lS h H).get? b=some o):h.get? b=some o/\H b=none:=by
 have e':h.get? b=some o:=W.of_hideAll (BE h H) e;refine⟨e',?_⟩;cases q:H b with
 |none=>rfl
 |some x=>
  have hm:b ∈ BE h H:=List.mem_filter.mpr ⟨mem_range.mpr (sK e'),by simp[q]⟩;have z:(lS h H).get? b=none:=W.hideAll_none (BE h H) hm;rw[z]at e;cases e
structure Mod (K:W.Frag) (mg:KH) (base:Heap):Prop where
 kin:K.In base
 glob:base.Ns mainGlobals mg
 blt:∃ mb,base.Ns builtinsNs mb/\∀ x:Str,x≠"__name__"->mb x=bootBuiltins x
 nolimit:base.NoLimit
/-- the context:a def's body (or a comprehension's block) running. base:fixed through the whole law;s₀,H₀:the entry;outer:the frames whose slots others may change (a def's callers);stack:all frames that run;
  ex:iterators that were made ahead of the entry and are walked here (a comprehension's);fn:the names whose cells were made at the entry (a def:all;a comprehension's block:its own);calm:not within an except bB;pn:Y that every state bears;xe:what is wanted of an exception that leaves the code -/
structure Cx where
 prog:Program
 w:World
 K:W.Frag
 mg:Str->Option Value
 base:Heap
 A:Around
 N:List Str
 s₀:Shared
 H₀:Hp
 env:Env
 outer:List Env
 stack:List Env
 ex:List Addr
 fn:Str->Bool
 calm:Bool
 pn:List (Addr×Obj)
 xe:Value->Shared->Prop
abbrev mM (l:List Env):List Addr:=l.filterMap (·.frame)
noncomputable abbrev Cx.fs (X:Cx):List Addr:=mM X.outer
abbrev Gg (sc:Scope)(x:Str):Prop:=sc.names.lookup x=some .local\/sc.names.lookup x=some .cell\/sc.names.lookup x=some .free
abbrev Loc (sc:Scope)(x:Str):Prop:=sc.names.lookup x=some .local\/sc.names.lookup x=some .cell
abbrev Look (env:Env)(h:Heap)(m:KH)(x:Str)(u:Value):Prop:=
 (env.kindOf x=some .local/\m x=some u)\/((env.kindOf x=some .cell\/env.kindOf x=some .free)/\∃ c,env.cells.lookup x=some c/\h.IsCell c (some u))
structure Cx.Ok (X:Cx):Prop where
 mod:Mod X.K X.mg X.base
 kind:X.env.scope.kind=.function
 glob:X.env.globals=mainGlobals
 blt:X.env.builtins=builtinsNs
 above:X.s₀.heap.objs.size<=X.env.locals
 inj:∀ x y c,X.env.cells.lookup x=some c->X.env.cells.lookup y=some c->x=y
 has:∀ x,(X.env.kindOf x=some .cell\/X.env.kindOf x=some .free)->∃ c,X.env.cells.lookup x=some c
 cab:∀ x c,X.fn x=true->X.env.cells.lookup x=some c->X.s₀.heap.objs.size<=c
 hd:X.calm=true->X.A.handled=none
 frames:X.A.frames=some X.stack
 stk:X.stack=X.outer\/(X.stack=X.env::X.outer/\X.env.frame=some X.env.locals)
 exf:∀ b ∈ X.ex,b≠X.env.locals/\∀ x c,X.env.cells.lookup x=some c->c≠b
 bs:∀ b o,X.base.get? b=some o->X.s₀.heap.get? b=some o/\X.H₀ b=none
 bsz:X.base.objs.size<=X.s₀.heap.objs.size
 noex:∀ b o,X.base.get? b=some o->b ∉ X.ex
 exfs:∀ b ∈ X.ex,b ∉ X.fs
 i9:X.s₀.heap.FunFrames X.base X.outer
 frf:∀ b ∈ X.fs,X.H₀ b=none
structure Inv (X:Cx) (Y:KG) (U:List (Option V)) (H:Hp) (s:Shared):Prop where
 ok:X.Ok
 os:s.os=X.s₀.os
 bare:AllBare s.gens
 base:Un X.fs X.ex X.H₀ H X.s₀.heap s.heap
 loc:∃ m,s.heap.Ns X.env.locals m/\∀ (i:Nat) (x:Str) (v:V),X.N[i]? =some x->U[i]? =some (some v)->Gg X.env.scope x->∃ u,RelV v u/\Look X.env s.heap m x u
 cell:∀ x c,X.env.cells.lookup x=some c->∃ v,s.heap.IsCell c v
 free:H X.env.locals=none
 freeC:∀ x c,X.env.cells.lookup x=some c->H c=none
 pin:∀ p ∈ X.pn++Y,s.heap.get? p.1=some p.2/\H p.1=none/\p.1≠X.env.locals/\p.1 ∉ X.fs/\∀ v,p.2.data≠.cell v
 hok:fu X.prog X.w H s.heap
 len:U.length=X.N.length
variable {x:Str}{g':Array GenState}{ch:List Addr}{i:Nat}{M:Model}{A:Around}{E:KD}{v:V}
section
variable {X:Cx}{Y:KG}{U:List (Option V)}{H H':Hp}{s:Shared}{h':Heap}
def Cx.Ok.Il (ok:X.Ok){o:Obj}(e:X.base.get? b=some o):b ∉ X.fs:=λhb=>by
 have:=(ok.i9.mem hb).1;rw[e]at this;cases this
def Inv.bs (I:Inv X Y U H s):∀ b o,X.base.get? b=some o->s.heap.get? b=some o/\H b=none:=λb o e=>
 ⟨I.base.keep b o (I.ok.bs b o e).1 (I.ok.bs b o e).2 (I.ok.Il e) (I.ok.noex b o e),I.base.free b o (I.ok.bs b o e).1 (I.ok.bs b o e).2 (I.ok.noex b o e)⟩
def Inv.bk (I:Inv X Y U H s):∀ b o,X.base.get? b=some o->s.heap.get? b=some o:=λb o e=>(I.bs b o e).1
def Inv.mod (I:Inv X Y U H s):Mod X.K X.mg X.base:=I.ok.mod
def Inv.bO (I:Inv X Y U H s):X.K.In s.heap:=I.ok.mod.kin.keeps I.bk
def Inv.lt (I:Inv X Y U H s):X.env.locals<s.heap.objs.size:=let⟨_,hn,_⟩:=I.loc;hn.lt
def Inv.sz (I:Inv X Y U H s):X.s₀.heap.objs.size<=s.heap.objs.size:=Nat.le_trans I.ok.above (Nat.le_of_lt I.lt)
def Inv.Iv (I:Inv X Y U H s)(h:s.heap.objs.size<=a):a ∉ X.fs:=λhb=>by
 obtain⟨_,o,ho,_⟩:=I.ok.i9.mem hb;exact absurd (nl (sK ho) (Nat.le_trans I.sz h)) (Nat.lt_irrefl _)
def Inv.wR (I:Inv X Y U H s):∀ x c,X.env.cells.lookup x=some c->c≠X.env.locals:=λx c e z=>by
 obtain⟨v,o,ho,hd⟩:=I.cell x c e;obtain⟨m,⟨o',es,ep,ho',hd',_⟩,_⟩:=I.loc;rw[z,ho']at ho;cases ho;rw[hd']at hd;cases hd
def Inv.i9 (I:Inv X Y U H s):s.heap.FunFrames X.base X.outer:=by
 have all:∀ (l:List Env),(∀ b ∈ mM l,b ∈ X.fs)->X.s₀.heap.FunFrames X.base l->s.heap.FunFrames X.base l:=by
  intro l
  induction l with
  |nil=>intro _ _;trivial
  |cons env r ih=>
   intro hs hl;obtain⟨hk,⟨L,o,hf,hn,ho,hd⟩,hr⟩:=hl;have hL:L ∈ X.fs:=hs L (by unfold mM;rw[filterMap_cons,hf];exact lf);obtain⟨sl,e⟩:=I.base.slot L o ho (I.ok.frf L hL) hL λz=>I.ok.exfs L z hL
   exact⟨hk,⟨L,_,hf,hn,e,hd⟩,ih (λb hb=>hs b (by unfold mM;rw[filterMap_cons,hf];exact dl _ hb)) hr⟩
 exact all X.outer (λ_ hb=>hb) I.ok.i9
def Inv.stack (I:Inv X Y U H s):s.heap.FunFrames X.base X.stack:=by
 rcases I.ok.stk with e|⟨e,hf⟩
 .rw[e];exact I.i9
 .rw[e];obtain⟨m,hn,_⟩:=I.loc;refine .cons (by rw[I.ok.kind];decide) hf hn ?_ I.i9;exact Heap.get?_none_of_le (Nat.le_trans I.ok.bsz I.ok.above)
def Inv.g6 (I:Inv X Y U H s):∀ b ∈ mM X.stack,b ∈ X.env.locals::X.fs:=λb hb=>by
 rcases I.ok.stk with e|⟨e,hf⟩
 .rw[e]at hb;exact dl _ hb
 .rw[e]at hb;unfold mM at hb;rw[filterMap_cons,hf]at hb;exact hb
def Inv.mU (I:Inv X Y U H s):∀ b ∈ mM X.stack,H b=none:=λb hb=>by
 rcases li.mp (I.g6 b hb) with e|hb
 .rw[e];exact I.free
 .obtain⟨_,o,ho,_⟩:=I.ok.i9.mem hb;exact I.base.free b o ho (I.ok.frf b hb) λz=>I.ok.exfs b z hb
def Inv.step {t':Nat}{d':Drawn}(I:Inv X Y U H s)
  (hch:∀ b ∈ ch,(b ∈ X.ex\/X.s₀.heap.objs.size<=b)/\b≠X.env.locals/\(∀ x c,X.env.cells.lookup x=some c->c≠b)/\∀ p ∈ X.pn++Y,p.1≠b)
  (keep:∀ b o,b≠X.env.locals->b ∉ X.fs->b ∉ ch->s.heap.get? b=some o->H b=none->h'.get? b=some o)
  (slot:∀ b o,b≠X.env.locals->b ∈ X.fs->b ∉ ch->s.heap.get? b=some o->H b=none->∃ sl,h'.get? b=some { o with slots:=sl }) (free:∀ b o,b ∉ ch->s.heap.get? b=some o->H b=none->H' b=none)
  (there:∀ b o,b ∉ ch->s.heap.get? b=some o->∃ o',h'.get? b=some o')
  (tups:∀ b xs,H b=some (.tup xs)->H' b=some (.tup xs)) (frzs:∀ b o u,H b=some (.iY o u)->H' b=some (.iY o u)) (tbls:∀ b ps,H b=some (.tbl ps)->∃ more,H' b=some (.tbl (ps++more)))
  (ns:∀ m,s.heap.Ns X.env.locals m->h'.Ns X.env.locals m) (hok:fu X.prog X.w H' h') (hg:AllBare g'):
  Inv X Y U H' { s with heap:=h',gens:=g',drawn:=d',toks:=t' }:=by
 have neL:∀ b o,X.s₀.heap.get? b=some o->b≠X.env.locals:=λb o e=>ol (nl (sK e) I.ok.above)
 have neC:∀ b o,X.s₀.heap.get? b=some o->b ∉ X.ex->b ∉ ch:=λb o e hx hb=>by
  rcases(hch b hb).1 with z|z
  .exact hx z
  .exact absurd (nl (sK e) z) (Nat.lt_irrefl _)
 have cellK:∀ x c,X.env.cells.lookup x=some c->∀ v,s.heap.IsCell c v->h'.IsCell c v:=λx c e v ⟨o,ho,hd⟩=>by
  have nch:c ∉ ch:=λz=>(hch c z).2.2.1 x c e rfl
  by_cases hc:c ∈ X.fs
  .obtain⟨sl,q⟩:=slot c o (I.wR x c e) hc nch ho (I.freeC x c e);exact⟨_,q,hd⟩
  .exact⟨o,keep c o (I.wR x c e) hc nch ho (I.freeC x c e),hd⟩
 refine⟨I.ok,I.os,hg,⟨λb o e n hb hx=>?_,λb o e n hb hx=>?_,λb o e n hx=>?_,λb o e hx=>?_,λb xs e=>tups b xs (I.base.tups b xs e),λb o xs e=>frzs b o xs (I.base.frzs b o xs e),λb ps e=>?_⟩,?_,λx c e=>?_,?_,λx c e=>?_,λp hp=>?_,hok,I.len⟩
 .exact keep b o (neL b o e) hb (neC b o e hx) (I.base.keep b o e n hb hx) (I.base.free b o e n hx)
 .obtain⟨sl,e1⟩:=I.base.slot b o e n hb hx;obtain⟨sl',e2⟩:=slot b _ (neL b o e) hb (neC b o e hx) e1 (I.base.free b o e n hx);exact⟨sl',e2⟩
 .obtain⟨o',e1⟩:=I.base.there b o e hx;exact free b o' (neC b o e hx) e1 (I.base.free b o e n hx)
 .obtain⟨o',e1⟩:=I.base.there b o e hx;exact there b o' (neC b o e hx) e1
 .obtain⟨m1,e1⟩:=I.base.tbls b ps e;obtain⟨m2,e2⟩:=tbls b _ e1;exact⟨m1++m2,by rw[e2,Array.append_assoc]⟩
 .obtain⟨m,hn,hl⟩:=I.loc;refine⟨m,ns m hn,λi x v e1 e2 e3=>?_⟩;obtain⟨u,r,l⟩:=hl i x v e1 e2 e3;refine⟨u,r,?_⟩;rcases l with l|⟨k,c,e,z⟩
  .exact .inl l
  .exact .inr ⟨k,c,e,cellK x c e _ z⟩
 .obtain⟨v,z⟩:=I.cell x c e;exact⟨v,cellK x c e v z⟩
 .obtain⟨m,⟨o,_,_,ho,_⟩,_⟩:=I.loc;exact free _ o (λz=>(hch _ z).2.1 rfl) ho I.free
 .obtain⟨v,o,ho,hd⟩:=I.cell x c e;exact free c o (λz=>(hch c z).2.2.1 x c e rfl) ho (I.freeC x c e)
 .obtain⟨e,n,ne,nf,d⟩:=I.pin p hp;have nch:p.1 ∉ ch:=λz=>(hch p.1 z).2.2.2 p hp rfl
  exact⟨keep p.1 p.2 ne nf nch e n,free p.1 p.2 nch e n,ne,nf,d⟩
def Inv.un {t':Nat}(I:Inv X Y U H s)(u:Un X.fs [] H H' s.heap h')(hok:fu X.prog X.w H' h'):Inv X Y U H' { s with heap:=h',toks:=t' }:=by
 obtain⟨m,⟨o,es,ep,ho,r⟩,_⟩:=id I.loc;obtain⟨sl,hL⟩:=u.any ho I.free (by simp);exact I.step (g':=s.gens) (d':=s.drawn) (ch:=[]) (λ_ z=>nomatch z) (λb o _ hb _ e n=>u.keep b o e n hb (by simp)) (λb o _ hb _ e n=>u.slot b o e n hb (by simp)) (λb o _ e n=>u.free b o e n (by simp)) (λb o _ e=>u.there b o e (by simp)) u.tups u.frzs u.tbls (λm' hm=>by
  obtain⟨o',es',ep',ho',r'⟩:=hm;rw[ho]at ho';cases ho';exact⟨_,es',ep',hL,r'⟩) hok I.bare
def Inv.call {t':Nat}{d':Drawn}(I:Inv X Y U H s)(u:Un (mM X.stack) ch H H' s.heap h')(hok:fu X.prog X.w H' h')(hg:AllBare g')
  (hch:∀ b ∈ ch,(b ∈ X.ex\/X.s₀.heap.objs.size<=b)/\b≠X.env.locals/\(∀ x c,X.env.cells.lookup x=some c->c≠b)/\∀ p ∈ X.pn++Y,p.1≠b):
  Inv X Y U H' { s with heap:=h',gens:=g',drawn:=d',toks:=t' }:=by
 obtain⟨m,⟨o,es,ep,ho,r⟩,_⟩:=id I.loc;obtain⟨sl,hL⟩:=u.any ho I.free λz=>(hch _ z).2.1 rfl
 exact I.step (ch:=ch) hch (λb o hL hb hc e n=>u.keep b o e n (λz=>(li.mp (I.g6 b z)).elim hL hb) hc) (λb o _ _ hc e n=>u.any e n hc) (λb o hc e n=>u.free b o e n hc) (λb o hc e=>u.there b o e hc) u.tups u.frzs u.tbls (λm' hm=>by
  obtain⟨o',es',ep',ho',r'⟩:=hm;rw[ho]at ho';cases ho';exact⟨_,es',ep',hL,r'⟩) hok hg
def Inv.turned {t':Nat}{it:Addr}(I:Inv X Y U H s)(k:∀ b o,b≠it->s.heap.get? b=some o->h'.get? b=some o) (hn:H it=none) (hL:it≠X.env.locals)
  (h1:it ∈ X.ex\/X.s₀.heap.objs.size<=it) (h2:∀ x c,X.env.cells.lookup x=some c->c≠it) (h3:∀ p ∈ X.pn++Y,p.1≠it):Inv X Y U H { s with heap:=h',toks:=t' }:=by
 have nit:∀ b u,H b=some u->b≠it:=λb u e z=>by rw[z,hn]at e;cases e
 refine I.step (g':=s.gens) (d':=s.drawn) (ch:=[it]) (λb hb=>?_) (λb o _ _ hc e _=>k b o (λz=>hc (by simp[z])) e) (λb o _ _ hc e _=>⟨o.slots,k b o (λz=>hc (by simp[z])) e⟩) (λ_ _ _ _ n=>n)
  (λb o hc e=>⟨o,k b o (λz=>hc (by simp[z])) e⟩) (λ_ _ e=>e) (λ_ _ _ e=>e) (λb ps e=>⟨#[],by rw[e];simp⟩) (λm hm=>?_) (λb u e=>?_) I.bare
 .have e:b=it:=by simpa using hb
  subst e;exact⟨h1,hL,h2,h3⟩
 .obtain⟨o,es,ep,ho,r⟩:=hm;exact⟨o,es,ep,k _ o (Ne.symm hL) ho,r⟩
 .refine(I.hok b u e).eC (λc v hc q=>k c v ?_ q) (λ_ q=>q) λ_ _ q=>q
  rcases hc with z|z
  .rw[z];exact nit b u e
  .exact nit c _ z
def Inv.tok (I:Inv X Y U H s)(t:Nat):Inv X Y U H { s with toks:=t }:=I.un (h':=s.heap) (t':=t) Un.refl I.hok
def Inv.kept {t':Nat}(I:Inv X Y U H s)(k:∀ b u,s.heap.get? b=some u->h'.get? b=some u):Inv X Y U H { s with heap:=h',toks:=t' }:=I.un (Un.kept k) (I.hok.kept k)
def Inv.laid {t':Nat}(I:Inv X Y U H s)(k:∀ b u,s.heap.get? b=some u->h'.get? b=some u) (hp:s.heap.objs.size<=a) (new:aC X.prog X.w (upd H a o) h' a o):
  Inv X Y U (upd H a o) { s with heap:=h',toks:=t' }:=I.un (Un.laid k hp (I.hok.fresh hp)) (I.hok.laid k hp new)
def Inv.write {x e:Addr}{t':Nat}(I:Inv X Y U H s)(mu:Fy (H x))(he:e=x\/H e=some (.own x))(k:∀ b u,b≠e->s.heap.get? b=some u->h'.get? b=some u) (heo:∃ u,h'.get? e=some u)
  (new:aC X.prog X.w (upd H x o) h' x o):Inv X Y U (upd H x o) { s with heap:=h',toks:=t' }:=I.un (Un.write mu he k heo) (I.hok.write mu he k heo new)
def Inv.m9 {pins':KG}(I:Inv X Y U H s)(h:∀ p ∈ pins',s.heap.get? p.1=some p.2/\H p.1=none/\p.1≠X.env.locals/\p.1 ∉ X.fs/\∀ v,p.2.data≠.cell v):Inv X pins' U H s:=
 ⟨I.ok,I.os,I.bare,I.base,I.loc,I.cell,I.free,I.freeC,λp hp=>(mem_append.mp hp).elim (λz=>I.pin p (mem_append_left _ z)) (h p),I.hok,I.len⟩
def jN {N:List Str}(hN:N.Nodup){j:Nat}(a:N[i]? =some x)(b:N[j]? =some x):i=j:=by
 obtain⟨h1,e1⟩:=sn.mp a;obtain⟨h2,e2⟩:=sn.mp b;exact(List.getElem_inj hN).mp (e1.trans e2.symm)
variable {Q:KC}
def lj (I:Inv X Y U H s)(hN:X.N.Nodup)(hi:X.N[i]? =some x)(hx:Loc X.env.scope x)(r:RelV v u)
  (h:∀ s',Inv X Y (U.set i (some v)) H s'->(∃ a,Heap.SameBut a s.heap s'.heap/\(a=X.env.locals\/X.env.cells.lookup x=some a))->Q () s') (hf:X.fn x=true\/X.env.scope.names.lookup x=some .local:=by first|exact .inl rfl|exact .inr rfl|assumption):wpAny M A (storeName X.env x u) Q E s:=by
 obtain⟨m,hn,hl⟩:=id I.loc;have hcls:(X.env.scope.kind ==.class||(X.env.scope.kind ==.module&&X.env.locals != X.env.globals))=false:=by rw[I.ok.kind];rfl
 have hiσ:i<U.length:=by rw[I.len];exact(sn.mp hi).1
 have wR:=I.wR;have tracked:∀ {a:Addr}{h':Heap},(∃ o,s.heap.get? a=some o/\H a=none)->Heap.SameBut a s.heap h'->fu X.prog X.w H h':=λ{a h'} ha hs b ob e=>by
  obtain⟨_,_,hfree⟩:=ha;refine(I.hok b ob e).eC (λc w' hc q=>(hs.2 c ?_).trans q) (λ_ q=>q) λ_ _ q=>q
  rintro rfl;rcases hc with rfl|hc
  .rw[hfree]at e;cases e
  .rw[hfree]at hc;cases hc
 rcases hx with hk|hk
 .refine wpAny_storeName_local hk hn (λh' hn' hs=>?_) hcls;obtain⟨oL,_,_,hoL,_⟩:=id hn;refine h _ ⟨I.ok,I.os,I.bare,⟨λb o e n hb hx=>?_,λb o e n hb hx=>?_,I.base.free,λb o e hx=>?_,I.base.tups,I.base.frzs,I.base.tbls⟩,⟨_,hn',λj y v' e1 e2 e3=>?_⟩,λy c e=>?_,I.free,I.freeC,λp hp=>?_,tracked ⟨oL,hoL,I.free⟩ hs,by simpa using I.len⟩ ⟨_,hs,.inl rfl⟩
  .exact(hs.2 b (ol (nl (sK e) I.ok.above))).trans (I.base.keep b o e n hb hx)
  .obtain⟨sl,e1⟩:=I.base.slot b o e n hb hx;exact⟨sl,(hs.2 b (ol (nl (sK e) I.ok.above))).trans e1⟩
  .obtain⟨o',e1⟩:=I.base.there b o e hx;exact⟨o',(hs.2 b (ol (nl (sK e) I.ok.above))).trans e1⟩
  .by_cases hj:j=i
   .subst hj;rw[hi]at e1;cases e1;rw[getElem?_set_self hiσ]at e2;cases e2;exact⟨u,r,.inl ⟨hk,by simp⟩⟩
   .rw[getElem?_set_ne (Ne.symm hj)]at e2;obtain⟨u',r',q⟩:=hl j y v' e1 e2 e3;refine⟨u',r',?_⟩;rcases q with⟨k,e⟩|⟨k,c,e,z⟩
    .refine .inl ⟨k,?_⟩;have:y≠x:=λe=>hj (jN hN e1 (e▸hi))
     simp[this,e]
    .exact .inr ⟨k,c,e,z.sameBut hs (wR y c e)⟩
  .obtain⟨w',z⟩:=I.cell y c e;exact⟨w',z.sameBut hs (wR y c e)⟩
  .obtain⟨e,n,ne,nf,d⟩:=I.pin p hp;exact⟨(hs.2 p.1 ne).trans e,n,ne,nf,d⟩
 .have hfn:X.fn x=true:=by
   rcases hf with z|z
   .exact z
   .rw[z]at hk;cases hk
  obtain⟨c,hc⟩:=I.ok.has x (.inl hk);obtain⟨w',z⟩:=I.cell x c hc;refine wpAny_storeName_cell I.ok.kind hk hc z (λh' hc' hs=>?_);obtain⟨oc,hoc,hocd⟩:=id z;refine h { s with heap:=h' } ⟨I.ok,I.os,I.bare,⟨λb o e n hb hx=>?_,λb o e n hb hx=>?_,I.base.free,λb o e hx=>?_,I.base.tups,I.base.frzs,I.base.tbls⟩,⟨m,hn.sameBut hs (Ne.symm (wR x c hc)),λj y v' e1 e2 e3=>?_⟩,λy c' e=>?_,I.free,I.freeC,λp hp=>?_,tracked ⟨oc,hoc,I.freeC x c hc⟩ hs,by simpa using I.len⟩ ⟨c,hs,.inr hc⟩
  .exact(hs.2 b (ol (nl (sK e) (I.ok.cab x c hfn hc)))).trans (I.base.keep b o e n hb hx)
  .obtain⟨sl,e1⟩:=I.base.slot b o e n hb hx;exact⟨sl,(hs.2 b (ol (nl (sK e) (I.ok.cab x c hfn hc)))).trans e1⟩
  .obtain⟨o',e1⟩:=I.base.there b o e hx;exact⟨o',(hs.2 b (ol (nl (sK e) (I.ok.cab x c hfn hc)))).trans e1⟩
  .by_cases hj:j=i
   .subst hj;rw[hi]at e1;cases e1;rw[getElem?_set_self hiσ]at e2;cases e2;exact⟨u,r,.inr ⟨.inl hk,c,hc,hc'⟩⟩
   .rw[getElem?_set_ne (Ne.symm hj)]at e2;obtain⟨u',r',q⟩:=hl j y v' e1 e2 e3;refine⟨u',r',?_⟩;rcases q with q|⟨k,c',e,z'⟩
    .exact .inl q
    .refine .inr ⟨k,c',e,z'.sameBut hs ?_⟩;rintro rfl;exact hj (jN hN e1 (I.ok.inj _ _ _ e hc▸hi))
  .by_cases hcc:c'=c
   .subst hcc;exact⟨_,hc'⟩
   .obtain⟨w2,z2⟩:=I.cell y c' e;exact⟨w2,z2.sameBut hs hcc⟩
  .obtain⟨e,n,ne,nf,d⟩:=I.pin p hp;refine⟨(hs.2 p.1 ?_).trans e,n,ne,nf,d⟩;intro q;rw[q,hoc]at e;have q':oc=p.2:=Option.some.inj e;exact d w' (by rw[<-q'];exact hocd)
def a7 (I:Inv X Y U H s)(hN:X.N.Nodup)(hi:X.N[i]? =some x)(hx:Loc X.env.scope x)(r:RelV v u)
  (h:∀ s',Inv X Y (U.set i (some v)) H s'->Q () s') (hf:X.fn x=true\/X.env.scope.names.lookup x=some .local:=by first|exact .inl rfl|exact .inr rfl|assumption):wpAny M A (storeName X.env x u) Q E s:=
 lj I hN hi hx r (λs' I' _=>h s' I') hf
def Inv.vV {s':Shared}(I:Inv X Y U H s)(ho:s'.os=s.os)(u:Un (mM X.stack) ch H H' s.heap s'.heap)(hok:fu X.prog X.w H' s'.heap)(hg:AllBare s'.gens)
  (hch:∀ b ∈ ch,(b ∈ X.ex\/X.s₀.heap.objs.size<=b)/\b≠X.env.locals/\(∀ x c,X.env.cells.lookup x=some c->c≠b)/\∀ p ∈ X.pn++Y,p.1≠b):Inv X Y U H' s':=by
 obtain⟨h',g',d',t',o'⟩:=s';have e:o'=s.os:=ho;subst e;exact I.call (g':=g') (t':=t') (d':=d') u hok hg hch
end
@[reducible]def XK:=Addr->Hp->Prop
@[reducible]def St:=List (Option V)
@[reducible]def VK:=V->Hp->Prop
@[reducible]def TE:=St->Hp->VK->Prop
@[reducible]def TT:=St->Hp->(Bool->Hp->Prop)->Prop
@[reducible]def TA:=St->Hp->(List V->Hp->Prop)->Prop
structure Ends where
 nx:St->Hp->Prop
 rt:VK
 bk:St->Hp->Prop:=λ_ _=>False
 ct:St->Hp->Prop:=λ_ _=>False
@[reducible]def TS:=Ends->St->Hp->Prop
abbrev EP (X:Cx)(Y:KG)(U:St)(Q:VK)(u:Value)(s':Shared):Prop:=∃ v H',Inv X Y U H' s'/\RelV v u/\Q v H'
abbrev TP (X:Cx)(Y:KG)(U:St)(Q:Bool->Hp->Prop)(b:Bool)(s':Shared):Prop:=∃ H',Inv X Y U H' s'/\Q b H'
abbrev AP (X:Cx)(Y:KG)(U:St)(Q:List V->Hp->Prop)(us:List Value)(s':Shared):Prop:=∃ vs H',Inv X Y U H' s'/\Vals vs us/\Q vs H'
abbrev SP (X:Cx)(Y:KG)(D:Ends)(f:Flow)(s':Shared):Prop:=
 match f with
 | .next=>∃ σ' H',Inv X Y σ' H' s'/\D.nx σ' H'
 | .brk=>∃ σ' H',Inv X Y σ' H' s'/\D.bk σ' H'
 | .cont=>∃ σ' H',Inv X Y σ' H' s'/\D.ct σ' H'
 | .ret u=>∃ v σ' H',Inv X Y σ' H' s'/\RelV v u/\D.rt v H'
abbrev PE (X:Cx)(e:Expr)(t:TE):Prop:=
 ∀ (Y:KG) (s:Shared) (U:St) (H:Hp) (Q:VK),Inv X Y U H s->t U H Q->wpAny (model X.prog X.w) X.A (eval e X.env) (EP X Y U Q) X.xe s
abbrev PT (X:Cx)(e:Expr)(t:TT):Prop:=
 ∀ (Y:KG) (s:Shared) (U:St) (H:Hp) (Q:Bool->Hp->Prop),Inv X Y U H s->t U H Q->wpAny (model X.prog X.w) X.A (isTrue e X.env (eval e X.env)) (TP X Y U Q) X.xe s
abbrev PW (X:Cx)(e:Expr)(t:TT):Prop:=
 ∀ (whole:Sem Value) (Y:KG) (s:Shared) (U:St) (H:Hp) (Q:Bool->Hp->Prop),Inv X Y U H s->t U H Q->wpAny (model X.prog X.w) X.A (isTrue e X.env whole) (TP X Y U Q) X.xe s
variable {e:Expr}
def PW.pt {X:Cx}{t:TT}(h:PW X e t):PT X e t:=h _
abbrev PA (X:Cx)(es:List Expr)(t:TA):Prop:=
 ∀ (pos:Pos) (Y:KG) (s:Shared) (U:St) (H:Hp) (Q:List V->Hp->Prop),Inv X Y U H s->t U H Q->wpAny (model X.prog X.w) X.A (spliced (backTo pos (bm es X.env))) (AP X Y U Q) X.xe s
abbrev PS (X:Cx)(st:Stmt)(t:TS):Prop:=
 ∀ (Y:KG) (s:Shared) (U:St) (H:Hp) (D:Ends),Inv X Y U H s->t D U H->wpAny (model X.prog X.w) X.A (exec st X.env) (SP X Y D) X.xe s
abbrev AQ (X:Cx)(st:List Stmt)(t:TS):Prop:=
 ∀ (Y:KG) (s:Shared) (U:St) (H:Hp) (D:Ends),Inv X Y U H s->t D U H->wpAny (model X.prog X.w) X.A (execs st X.env) (SP X Y D) X.xe s
variable {s:Shared}
def aw {α:Type}{t:Sem α}{Q Q':α->Shared->Prop}(h:wpAny M A t Q E s)(hQ:∀ a s,Q a s->Q' a s):wpAny M A t Q' E s:=wpAny_mono h hQ λ_ _ x=>x
variable {Q:KD}{Y:KG}{U:St}{c:Expr}
section
variable {X:Cx}
abbrev IJ (i:Nat):TE:=λU H Q=>∃ v,U[i]? =some (some v)/\Q v H
abbrev tC (v:V):TE:=λ_ H Q=>Q v H
def CZ {pos:Pos}(hN:X.N[i]? =some x)(hv:Gg X.env.scope x)(hd:(x ==("__debug__":Str))=false:=by decide) (hcd:(x ==("__classdict__":Str))=false:=by decide):PE X (.Name x pos) (IJ i):=by
 intro Y s U H Q I h;obtain⟨v,e,h⟩:=h;obtain⟨m,hn,hl⟩:=I.loc;obtain⟨u,r,l⟩:=hl i x v hN e hv;have fin:EP X Y U Q u s:=⟨v,H,I,r,h⟩;rcases l with⟨hk,hm⟩|⟨hk,c,hc,hcell⟩
 .exact wpAny_Name (wpAny_loadName_local I.ok.kind hk hn hm fin) hd
 .rcases hk with hk|hk
  .exact wpAny_Name (wpAny_loadName_cell I.ok.kind hk hc hcell fin) hd
  .exact wpAny_Name (wpAny_loadName_free I.ok.kind hk hc hcell fin hcd) hd
def DP {i j pos}:PE X (.Constant (.int i) j pos) (tC (.int i)):=λ_ _ _ H _ I h=>wpAny_Constant_int ⟨.int i,H,I.tok _,⟨_,rfl⟩,h⟩
def G8 {b j pos}:PE X (.Constant (.bool b) j pos) (tC (.bl b)):=λ_ _ _ H _ I h=>Constant_bool ⟨.bl b,H,I,rfl,h⟩
def D9 {j pos}:PE X (.Constant .none j pos) (tC .non):=λ_ _ _ H _ I h=>Constant_none ⟨.non,H,I,rfl,h⟩
def v5 {x j pos}:PE X (.Constant (.str x) j pos) (tC (.str x)):=λ_ _ _ H _ I h=>Calls.Constant_str ⟨.str x,H,I.tok _,⟨_,rfl⟩,h⟩
abbrev Gl (X:Cx)(x:Str):Prop:=X.env.kindOf x=some .globalImplicit
def bw {pos:Pos}(I:Inv X Y U H s)(hg:Gl X x)(hm:X.mg x=some u)(h:Q u s)
  (hd:(x ==("__debug__":Str))=false:=by decide):wpAny (model X.prog X.w) X.A (eval (.Name x pos) X.env) Q E s:=
 Calls.Name_function_global I.ok.kind hg (Calls.loadGlobal_global (by rw[I.ok.glob];exact I.mod.glob.keeps I.bk) hm h) hd
def cn {pos:Pos}(I:Inv X Y U H s)(hg:Gl X x)(hm:X.mg x=none)(hv:bootBuiltins x=some u)(h:Q u s)
  (hn:x≠"__name__":=by decide) (hd:(x ==("__debug__":Str))=false:=by decide):wpAny (model X.prog X.w) X.A (eval (.Name x pos) X.env) Q E s:=by
 obtain⟨mb,h1,h2⟩:=I.mod.blt;exact Calls.Name_function_global I.ok.kind hg (Calls.loadGlobal_builtin (by rw[I.ok.glob];exact I.mod.glob.keeps I.bk) hm (by rw[I.ok.blt];exact h1.keeps I.bk) ((h2 x hn).trans hv) h) hd
def sW {pos:Pos}(hg:Gl X x)(hm:X.mg x=some u)(r:RelV v u)(hd:(x ==("__debug__":Str))=false:=by decide):PE X (.Name x pos) (tC v):=
 λ_ _ _ H _ I h=>bw I hg hm ⟨v,H,I,r,h⟩ hd
def zF {pos:Pos}(hg:Gl X x)(hm:X.mg x=none)(hv:bootBuiltins x=some u)(r:RelV v u)(hn:x≠"__name__":=by decide) (hd:(x ==("__debug__":Str))=false:=by decide):PE X (.Name x pos) (tC v):=
 λ_ _ _ H _ I h=>cn I hg hm hv ⟨v,H,I,r,h⟩ hn hd
variable {a b:Expr}{ta tb:TE}{pos:Pos}
variable {tA tB':TT}{rest:List Expr}
abbrev IT (t u:TT):TT:=λU H Q=>t U H λc H1=>if c=true then u U H1 Q else Q false H1
abbrev Kj (t u:TT):TT:=λU H Q=>t U H λc H1=>if c=true then Q true H1 else u U H1 Q
abbrev Jf (t:TT):TT:=λU H Q=>t U H λc H1=>Q (!c) H1
def A0 (ha:PT X a tA):PW X (.BoolOp .And [a] pos) tA:=by
 intro wh Y s U H Q I h;refine isTrue_and (aw (ha Y s U H Q I h) λc s1 e=>?_);cases c with
 |true=>exact isTrue_and_nil e
 |false=>exact e
def EK (ha:PT X a tA):PW X (.BoolOp .Or [a] pos) tA:=by
 intro wh Y s U H Q I h;refine isTrue_or (aw (ha Y s U H Q I h) λc s1 e=>?_);cases c with
 |false=>exact isTrue_or_nil e
 |true=>exact e
def DJ (ha:PT X a tA)(hb:PW X (.BoolOp .And (b::rest) pos) tB'):PW X (.BoolOp .And (a::b::rest) pos) (IT tA tB'):=by
 intro wh Y s U H Q I h;refine isTrue_and (aw (ha Y s U H _ I h) λc s1 ⟨H1,I1,q1⟩=>?_);cases c with
 |true=>exact hb wh Y s1 U H1 Q I1 q1
 |false=>exact⟨H1,I1,q1⟩
def FJ (ha:PT X a tA)(hb:PW X (.BoolOp .Or (b::rest) pos) tB'):PW X (.BoolOp .Or (a::b::rest) pos) (Kj tA tB'):=by
 intro wh Y s U H Q I h;refine isTrue_or (aw (ha Y s U H _ I h) λc s1 ⟨H1,I1,q1⟩=>?_);cases c with
 |true=>exact⟨H1,I1,q1⟩
 |false=>exact hb wh Y s1 U H1 Q I1 q1
def Ea (ha:PT X a tA):PT X (.UnaryOp .Not a pos) (Jf tA):=by
 intro Y s U H Q I h;exact isTrue_not (ha Y s U H (λc H1=>Q (!c) H1) I h)
abbrev GZ (ta tb:TE):TE:=λU H Q=>ta U H λx H1=>∃ c,x=.bl c/\if c=true then tb U H1 Q else Q (.bl false) H1
abbrev Iz (ta tb:TE):TE:=λU H Q=>ta U H λx H1=>∃ c,x=.bl c/\if c=true then Q (.bl true) H1 else tb U H1 Q
abbrev GJ (ta:TE):TE:=λU H Q=>ta U H λx H1=>∃ c,x=.bl c/\Q (.bl (!c)) H1
def yo {op}{t:TE}(h:PE X a t):PE X (.BoolOp op [a] pos) t:=λY s U H Q I hw=>BoolOp_one (h Y s U H Q I hw)
def C6 (ha:PE X a ta)(hb:PE X (.BoolOp .And (b::rest) pos) tb):PE X (.BoolOp .And (a::b::rest) pos) (GZ ta tb):=by
 intro Y s U H Q I h;refine BoolOp_and (aw (ha Y s U H _ I h) λv s1 ⟨x,H1,I1,r1,q1⟩=>?_);obtain⟨c,rfl,q1⟩:=q1;cases r1;refine bi ?_;cases c with
 |true=>exact hb Y s1 U H1 Q I1 q1
 |false=>exact⟨.bl false,H1,I1,rfl,q1⟩
def Fq (ha:PE X a ta)(hb:PE X (.BoolOp .Or (b::rest) pos) tb):PE X (.BoolOp .Or (a::b::rest) pos) (Iz ta tb):=by
 intro Y s U H Q I h;refine BoolOp_or (aw (ha Y s U H _ I h) λv s1 ⟨x,H1,I1,r1,q1⟩=>?_);obtain⟨c,rfl,q1⟩:=q1;cases r1;refine bi ?_;cases c with
 |false=>exact hb Y s1 U H1 Q I1 q1
 |true=>exact⟨.bl true,H1,I1,rfl,q1⟩
def Dy (ha:PE X a ta):PE X (.UnaryOp .Not a pos) (GJ ta):=by
 intro Y s U H Q I h;refine UnaryOp_ (aw (ha Y s U H _ I h) λv s1 ⟨x,H1,I1,r1,q1⟩=>?_);obtain⟨c,rfl,q1⟩:=q1;cases r1;exact not_of (bi ⟨.bl (!c),H1,I1,rfl,q1⟩)
abbrev Kh (t:TT)(ta tb:TE):TE:=λU H Q=>t U H λc H1=>if c=true then ta U H1 Q else tb U H1 Q
def vh (hc:PT X c tA)(ha:PE X a ta)(hb:PE X b tb):PE X (.IfExp c a b pos) (Kh tA ta tb):=by
 intro Y s U H Q I h;refine wpAny_IfExp (aw (hc Y s U H _ I h) λd s1 ⟨H1,I1,q1⟩=>?_);cases d with
 |true=>exact ha Y s1 U H1 Q I1 q1
 |false=>exact hb Y s1 U H1 Q I1 q1
end
abbrev aY (K:W.Frag)(H:Hp)(a:Addr)(xs:List V):Prop:=
 Rd H a (.lst xs)\/
  ∃ (o:Obj) (its:Array Value) (n:Nat),K.lookup a=some o/\o.cls=.type "list"/\o.dict=none/\o.data=.seq its n/\its.size<=bn/\Vals xs its.toList
abbrev aZ (K:W.Frag)(H:Hp)(a:Addr)(xs:List V):Prop:=
 Rd H a (.tup xs)\/
  ∃ (o:Obj) (its:Array Value) (n:Nat),K.lookup a=some o/\o.cls=.type "tuple"/\o.data=.seq its n/\its.size<=bn/\Vals xs its.toList
abbrev Jd:Value->Option V
 | .none=>some .non
 | .bool b=>some (.bl b)
 | .int i _=>some (.int i)
 | .str x _=>some (.str x)
 | .bytes b _=>some (.byt b)
 | .float b _=>some (.flt b)
 | .ref a=>some (.ref a)
 | .type n=>some (.ty n)
 |_=>none
def RelV.abs {x:V}(r:RelV x u):Jd u=some x:=by
 cases x with
 |non=>cases r;rfl
 |bl _=>cases r;rfl
 |int _=>obtain⟨t,rfl⟩:=r;rfl
 |str _=>obtain⟨t,rfl⟩:=r;rfl
 |byt _=>obtain⟨t,rfl⟩:=r;rfl
 |flt _=>obtain⟨t,rfl⟩:=r;rfl
 |ref _=>cases r;rfl
 |ty _=>cases r;rfl
def RelV.inj {x y:V}(r:RelV x u)(q:RelV y u):x=y:=Option.some.inj (r.abs.symm.trans q.abs)
def Vals.inj:∀ {xs ys:List V}{us:List Value},Vals xs us->Vals ys us->xs=ys
 |_,_,_,.nil,.nil=>rfl
 |_,_,_,.cons r t,.cons r' t'=>by rw[r.inj r',Vals.inj t t']
variable {K:W.Frag}
section
variable {X:Cx}{Y:KG}{U:St}{H:Hp}{s:Shared}{a:Addr}{xs ys:List V}
def aY.of (h:H a=some (.lst xs)):aY K H a xs:=.inl (.inl h)
def aZ.of (h:H a=some (.tup xs)):aZ K H a xs:=.inl (.inl h)
def Inv.list (I:Inv X Y U H s)(h:aY X.K H a xs):∃ its:List Value,Vals xs its/\PlainL s.heap a its.toArray/\xs.length<=bn:=by
 rcases h with h|⟨o,its,n,hk,hc,hd,hs,hz,r⟩
 .obtain⟨z,its,n,r,e⟩:=h.ok I.hok;exact⟨its,r,⟨_,n,e,rfl,rfl,rfl⟩,z⟩
 .refine⟨its.toList,r,⟨o,n,I.bO a o hk,hc,hd,by simpa using hs⟩,?_⟩;have e:=r.length;simp only[Array.length_toList]at e
  omega
def Inv.tuple (I:Inv X Y U H s)(h:aZ X.K H a xs):∃ its:List Value,Vals xs its/\IsTup s.heap a its.toArray/\xs.length<=bn:=by
 rcases h with h|⟨o,its,n,hk,hc,hs,hz,r⟩
 .obtain⟨z,its,r,p⟩:=h.ok I.hok;exact⟨its,r,p,z⟩
 .refine⟨its.toList,r,⟨o,I.bO a o hk,hc,n,by simpa using hs⟩,?_⟩;have e:=r.length;simp only[Array.length_toList]at e
  omega
def Inv.j7 (I:Inv X Y U H s)(h:aY X.K H a xs)(h':aY X.K H a ys):xs=ys:=by
 obtain⟨its,r,⟨o,n,e,_,_,d⟩,_⟩:=I.list h;obtain⟨its',r',⟨o',n',e',_,_,d'⟩,_⟩:=I.list h';rw[e]at e';cases e';rw[d]at d'
 injection d' with d1 _
 have:its=its':=by simpa using congrArg Array.toList d1
 subst this;exact r.inj r'
def Inv.gX (I:Inv X Y U H s)(h:aZ X.K H a xs)(h':aZ X.K H a ys):xs=ys:=by
 obtain⟨its,r,⟨o,e,_,n,d⟩,_⟩:=I.tuple h;obtain⟨its',r',⟨o',e',_,n',d'⟩,_⟩:=I.tuple h';rw[e]at e';cases e';rw[d]at d'
 injection d' with d1 _
 have:its=its':=by simpa using congrArg Array.toList d1
 subst this;exact r.inj r'
end
section
variable {X:Cx}{Y:KG}{U:St}{H:Hp}{s:Shared}{E:KD}
end
section
variable {X:Cx}{st:Stmt}{rest:List Stmt}{t u:TS}{e:Expr}{te:TE}{pos:Pos}
abbrev Gk:TS:=λD U H=>D.nx U H
abbrev Iq (t u:TS):TS:=λD U H=>t { D with nx:=u D } U H
def yS:AQ X [] Gk:=λ_ _ U H _ I h=>wpAny_execs_nil ⟨U,H,I,h⟩
def vR (h1:PS X st t)(h2:AQ X rest u):AQ X (st::rest) (Iq t u):=by
 intro Y s U H D I h;refine wpAny_execs_cons (aw (h1 Y s U H { D with nx:=u D } I h) λf s1 q=>?_);cases f with
 |next=>
  obtain⟨σ',H',I',q⟩:=q;exact h2 Y s1 σ' H' D I' q
 |ret v=>exact q
 |brk=>exact q
 |cont=>exact q
def Inv.quiet (I:Inv X Y U H s):interactive X.env=false:=by simp[interactive,I.ok.kind]
abbrev F9 (te:TE):TS:=λD U H=>te U H λ_ H1=>D.nx U H1
def zC (he:PE X e te)(hs:swapsWith e none pos.line X.env=pure false:=by rfl):PS X (.Expr e pos) (F9 te):=by
 intro Y s U H D I h;exact wpAny_Expr_any (aw (he Y s U H _ I h) λv s1 ⟨x,H1,I1,r1,q1⟩=>⟨U,H1,I1,q1⟩) I.quiet hs
abbrev Je (te:TE):TS:=λD U H=>te U H D.rt
def CS (he:PE X e te):PS X (.Return (some e) pos) (Je te):=by
 intro Y s U H D I h;exact wpAny_Return_some (aw (he Y s U H _ I h) λv s1 ⟨x,H1,I1,r1,q1⟩=>⟨x,U,H1,I1,r1,q1⟩)
abbrev IK (c:TT)(t u:TS):TS:=λD U H=>c U H λb H1=>if b=true then t D U H1 else u D U H1
def GW {a b:List Stmt}{tc:TT}(hc:PT X c tc)(ha:AQ X a t)(hb:AQ X b u):PS X (.If c a b pos) (IK tc t u):=by
 intro Y s U H D I h;refine wpAny_If (aw (hc Y s U H _ I h) λd s1 ⟨H1,I1,q1⟩=>?_);cases d with
 |true=>exact ha Y s1 U H1 D I1 q1
 |false=>exact hb Y s1 U H1 D I1 q1
end
@[reducible]def TG:=V->St->Hp->(St->Hp->Prop)->Prop
@[reducible]def AB:=List V->St->Hp->(St->Hp->Prop)->Prop
abbrev PG (X:Cx)(target:Expr)(t:TG):Prop:=
 ∀ (Y:KG) (s:Shared) (U:St) (H:Hp) (v:V) (u:Value) (Q:St->Hp->Prop),Inv X Y U H s->RelV v u->t v U H Q->
  wpAny (model X.prog X.w) X.A (assign target X.env u) (λ_ s'=>∃ σ' H',Inv X Y σ' H' s'/\Q σ' H') X.xe s
abbrev Dz (X:Cx)(ts:List Expr)(t:AB):Prop:=
 ∀ (Y:KG) (s:Shared) (U:St) (H:Hp) (vs:List V) (us:List Value) (Q:St->Hp->Prop),Inv X Y U H s->Vals vs us->t vs U H Q->
  wpAny (model X.prog X.w) X.A (assignInOrder ((assignEach ts X.env).map (·.2)) us) (λ_ s'=>∃ σ' H',Inv X Y σ' H' s'/\Q σ' H') X.xe s
@[reducible]def tZ:=V->V->V->Hp->(Hp->Prop)->Prop
abbrev Bj (X:Cx)(t:tZ):Prop:=
 ∀ (Y:KG) (s:Shared) (U:St) (H:Hp) (o i v:V) (ov iv u:Value) (Q:Hp->Prop),Inv X Y U H s->RelV o ov->RelV i iv->RelV v u->t o i v H Q->
  wpAny (model X.prog X.w) X.A (setItem ov iv u) (λ_ s'=>∃ H',Inv X Y U H' s'/\Q H') X.xe s
@[reducible]def ES:=V->V->Hp->VK->Prop
abbrev GK (X:Cx)(op:Operator)(t:ES):Prop:=
 ∀ (Y:KG) (s:Shared) (U:St) (H:Hp) (x y:V) (v u:Value) (Q:VK),Inv X Y U H s->RelV x v->RelV y u->t x y H Q->
  wpAny (model X.prog X.w) X.A (inplaceOp op v u) (EP X Y U Q) X.xe s
variable {es:List Expr}{k:Nat}{tg:Expr}{te:TE}{pos':Pos}{op:Operator}
section
variable {X:Cx}{pos:Pos}
abbrev gA (i:Nat):TG:=λv U H Q=>Q (U.set i (some v)) H
def fR (hN:X.N.Nodup)(hi:X.N[i]? =some x)(hx:Loc X.env.scope x)(hf:X.fn x=true\/X.env.scope.names.lookup x=some .local:=by first|exact .inl rfl|exact .inr rfl|assumption):PG X (.Name x pos) (gA i):=by
 intro Y s U H v u Q I r h;exact wpAny_assign_Name (a7 I hN hi hx r (λs' I'=>⟨_,H,I',h⟩) hf)
abbrev HV:AB:=λvs U H Q=>vs=[]/\Q U H
abbrev FQ (t:TG)(u:AB):AB:=λvs U H Q=>∃ v r,vs=v::r/\t v U H λσ' H'=>u r σ' H' Q
def mY:Dz X [] HV:=by
 intro Y s U H vs us Q I r h;obtain⟨e,h⟩:=h;subst e;cases r;exact assignInOrder_nil ⟨U,H,I,h⟩
def f7 {t:TG}{u:AB}(h1:PG X e t)(h2:Dz X es u)
  (hs:(assignEach (e::es) X.env).map (·.2)=assign e X.env::(assignEach es X.env).map (·.2):=by rfl):Dz X (e::es) (FQ t u):=by
 intro Y s U H vs us Q I r h;obtain⟨v,vr,e1,h⟩:=h;subst e1;cases r with
 |cons r rr=>
  rw[hs];refine assignInOrder_cons (aw (h1 Y s U H _ _ _ I r h) λ_ s1 ⟨σ1,H1,I1,q1⟩=>?_);exact h2 Y s1 σ1 H1 _ _ Q I1 rr q1
abbrev yM (K:W.Frag)(n:Nat)(t:AB):TG:=λv U H Q=>∃ a xs,v=.ref a/\aZ K H a xs/\xs.length=n/\t xs U H Q
def nr {t:AB}{n:Nat}(hc:X.calm=true)(h:Dz X es t)
  (hn:(assignEach es X.env).length=n:=by rfl) (hst:(assignEach es X.env).findIdx? (·.1)=none:=by rfl):PG X (.Tuple es k pos) (yM X.K n t):=by
 intro Y s U H v u Q I r hw;obtain⟨a,xs,e1,hq,hl,hw⟩:=hw;subst e1;cases r;obtain⟨its,rv,ht,hz⟩:=I.tuple hq;refine assign_Tuple_tuple (I.ok.hd hc) ht (by simp[hn,<-hl,rv.length]) hst λh' hx=>?_
 have I1:Inv X Y U H { s with heap:=h' }:=I.kept (t':=s.toks) λb o e=>hx b o (ol (sK e)) e
 exact h Y _ U H xs _ Q I1 (by simpa using rv) hw
abbrev IG (to ti:TE)(t:tZ):TG:=λv U H Q=>to U H λo H1=>ti U H1 λi H2=>t o i v H2 λH3=>Q U H3
def DY {o i:Expr}{to ti:TE}{t:tZ}(ho:PE X o to)(hi:PE X i ti)(hs:Bj X t)
  (ha:∀ v,assign (.Subscript o i pos) X.env v=(do
   let ov <-holding [v] (eval o X.env)
   let iv <-holding [v,ov] (eval i X.env)
   standAt pos
   holding [v,ov,iv] (setItem ov iv v)
   release [v,ov,iv] []):=by intro _;rfl):PG X (.Subscript o i pos) (IG to ti t):=by
 intro Y s U H v u Q I r h;rw[ha];refine ad (bd (aw (ho Y s U H _ I h) λov s1 ⟨x,H1,I1,r1,q1⟩=>?_));refine ad (bd (aw (hi Y s1 U H1 _ I1 q1) λiv s2 ⟨y,H2,I2,r2,q2⟩=>?_));refine ad (wpAny_standAt (ad (bd (aw (hs Y s2 U H2 x y v ov iv u _ I2 r1 r2 r q2) λ_ s3 ⟨H3,I3,q3⟩=>?_))));exact wpAny_release ⟨U,H3,I3,q3⟩
abbrev Gr (te:TE)(g:TG):TS:=λD U H=>te U H λx H1=>g x U H1 D.nx
def yy {g:TG}(he:PE X e te)(hg:PG X tg g)(hs:swapsWithSole [tg] e pos.line X.env=pure false:=by rfl) (hw:swappedStores [tg] e X.env=pure none:=by rfl)
  (h1:(assignEach [tg] X.env).map (·.2)=[assign tg X.env]:=by rfl):PS X (.Assign [tg] e pos) (Gr te g):=by
 intro Y s U H D I h;refine wpAny_Assign_stores (aw (he Y s U H _ I h) λv s1 ⟨x,H1,I1,r1,q1⟩=>?_) hs hw;rw[h1];exact aw (hg Y s1 U H1 x v _ I1 r1 q1) λ_ s2 q=>q
def xQ (hN:X.N.Nodup)(hi:X.N[i]? =some x)(hx:Loc X.env.scope x)(he:PE X e te)(hs:swapsWith e (some (.Name x pos')) pos.line X.env=pure false:=by rfl) (hf:X.fn x=true\/X.env.scope.names.lookup x=some .local:=by first|exact .inl rfl|exact .inr rfl|assumption):
  PS X (.Assign [.Name x pos'] e pos) (Gr te (gA i)):=by
 intro Y s U H D I h;refine wpAny_Assign_Name (aw (he Y s U H _ I h) λv s1 ⟨y,H1,I1,r1,q1⟩=>?_) hs;exact a7 I1 hN hi hx r1 (λs2 I2=>⟨_,H1,I2,q1⟩) hf
abbrev IV (i:Nat)(te:TE)(ti:ES):TS:=λD U H=>∃ x,U[i]? =some (some x)/\te U H λy H1=>ti x y H1 λz H2=>D.nx (U.set i (some z)) H2
def Cj {ti:ES}(hN:X.N.Nodup)(hi:X.N[i]? =some x)(hx:Loc X.env.scope x)(he:PE X e te)(ho:GK X op ti)(hf:X.fn x=true\/X.env.scope.names.lookup x=some .local:=by first|exact .inl rfl|exact .inr rfl|assumption):
  PS X (.AugAssign (.Name x pos') op e pos) (IV i te ti):=by
 intro Y s U H D I h;obtain⟨v,e1,h⟩:=h;obtain⟨m,hn,hl⟩:=I.loc;have CH:Gg X.env.scope x:=by rcases hx with k|k;exact .inl k;exact .inr (.inl k)
 obtain⟨u,r,l⟩:=hl i x v hi e1 CH;refine wpAny_AugAssign_Name ?_;have go:wpAny (model X.prog X.w) X.A (eval e X.env) (λw s₂=>wpAny (model X.prog X.w) X.A (inplaceOp op u w) (λr s₃=>wpAny (model X.prog X.w) X.A (storeName X.env x r) (λ_=>SP X Y D .next) X.xe s₃) X.xe s₂) X.xe s:=by
  refine aw (he Y s U H _ I h) λw s1 ⟨y,H1,I1,r1,q1⟩=>?_
  refine aw (ho Y s1 U H1 v y u w _ I1 r r1 q1) λz s2 ⟨zv,H2,I2,r2,q2⟩=>?_
  exact a7 I2 hN hi hx r2 (λs3 I3=>⟨_,H2,I3,q2⟩) hf
 rcases l with⟨hk,hm⟩|⟨hk,c,hc,hcell⟩
 .exact wpAny_loadName_local I.ok.kind hk hn hm go
 .rcases hk with hk|hk
  .exact wpAny_loadName_cell I.ok.kind hk hc hcell go
  .rcases hx with k|k
   .have:X.env.scope.names.lookup x=some .free:=hk;rw[k]at this;cases this
   .have:X.env.scope.names.lookup x=some .free:=hk;rw[k]at this;cases this
abbrev GV (to ti te:TE)(tget:V->V->Hp->VK->Prop)(tip:ES)(tset:tZ):TS:=λD U H=>to U H λo H1=>ti U H1 λi H2=>tget o i H2 λx H3=>te U H3 λy H4=>tip x y H4 λz H5=>tset o i z H5 λH6=>D.nx U H6
abbrev Cz (X:Cx)(t:V->V->Hp->VK->Prop):Prop:=
 ∀ (Y:KG) (s:Shared) (U:St) (H:Hp) (o i:V) (ov iv:Value) (Q:VK),Inv X Y U H s->RelV o ov->RelV i iv->t o i H Q->
  wpAny (model X.prog X.w) X.A (getItem ov iv) (EP X Y U Q) X.xe s
def AO {o i:Expr}{to ti:TE}{tget:V->V->Hp->VK->Prop}{tip:ES}{tset:tZ}{tpos:Pos}(ho:PE X o to)(hi:PE X i ti)(hg:Cz X tget)(he:PE X e te)(hp:GK X op tip)(hs:Bj X tset)
  (ha:∀ ov iv new,augStore i ov iv new=(do holding [new,ov,iv] (setItem ov iv new);release [new,ov,iv] [];pure .next):=by intros;rfl):PS X (.AugAssign (.Subscript o i tpos) op e pos) (GV to ti te tget tip tset):=by
 intro Y s U H D I h;refine wpAny_AugAssign_SubscriptAny (aw (ho Y s U H _ I h) λov s1 ⟨x1,H1,I1,r1,q1⟩=>?_) ha;refine aw (hi Y s1 U H1 _ I1 q1) λiv s2 ⟨x2,H2,I2,r2,q2⟩=>?_
 refine aw (hg Y s2 U H2 x1 x2 ov iv _ I2 r1 r2 q2) λold s3 ⟨x3,H3,I3,r3,q3⟩=>?_
 refine aw (he Y s3 U H3 _ I3 q3) λv s4 ⟨x4,H4,I4,r4,q4⟩=>?_
 refine aw (hp Y s4 U H4 x3 x4 old v _ I4 r3 r4 q4) λnew s5 ⟨x5,H5,I5,r5,q5⟩=>?_
 exact aw (hs Y s5 U H5 x1 x2 x5 ov iv new _ I5 r1 r2 r5 q5) λ_ s6 ⟨H6,I6,q6⟩=>⟨U,H6,I6,q6⟩
abbrev JA (f:Int->Int->Int):ES:=λx y H Q=>∃ i j,x=.int i/\y=.int j/\Q (.int (f i j)) H
def D0:GK X .Add (JA λi j=>i+j):=by
 intro Y s U H x y v u Q I r1 r2 h;obtain⟨i,j,e1,e2,q⟩:=h;subst e1;subst e2;obtain⟨t,rfl⟩:=r1;obtain⟨t',rfl⟩:=r2;exact iadd_int ⟨.int _,H,I.tok _,⟨_,rfl⟩,q⟩
def Ck:GK X .Sub (JA λi j=>i-j):=by
 intro Y s U H x y v u Q I r1 r2 h;obtain⟨i,j,e1,e2,q⟩:=h;subst e1;subst e2;obtain⟨t,rfl⟩:=r1;obtain⟨t',rfl⟩:=r2;exact isub_int ⟨.int _,H,I.tok _,⟨_,rfl⟩,q⟩
end
variable {body:List Stmt}
section
variable {X:Cx}{pos:Pos}
abbrev Dh (c:TT)(tb:TS):TS:=λD U H=>∃ W:Nat->St->Hp->Prop,(∃ m,W m U H)/\∀ m U H,W m U H->
 c U H λb H1=>if b=true then ∃ N:St->Hp->Prop,(∀ σ' H',N σ' H'->∃ m',m'<m/\W m' σ' H')/\tb { D with nx:=N,ct:=N,bk:=D.nx } U H1 else D.nx U H1
def vG {tc:TT}{tb:TS}(hp:PassesOwn (model X.prog X.w) X.A X.env X.xe)(hc:PT X c tc)(hb:AQ X body tb):PS X (.While c body [] pos) (Dh tc tb):=by
 intro Y s U H D I h;obtain⟨W,⟨m0,w0⟩,turn⟩:=h;refine wpAny_While (codeAny_whileLoop (λn s'=>∃ σ' H',Inv X Y σ' H' s'/\W n σ' H') ?_ m0 ⟨U,H,I,w0⟩);rintro n s1 ⟨σ1,H1,I1,w1⟩;refine wpAny_passesOwn hp (aw (hc Y s1 σ1 H1 _ I1 (turn n σ1 H1 w1)) λb s2 ⟨H2,I2,q2⟩=>?_);cases b with
 |true=>
  obtain⟨N,hN,q2⟩:=q2;rw[if_pos rfl];refine wpAny_passesOwn hp (aw (hb Y s2 σ1 H2 _ I2 q2) λf s3 q3=>?_);cases f with
  |next=>
   obtain⟨σ3,H3,I3,n3⟩:=q3;obtain⟨m',hm,w3⟩:=hN σ3 H3 n3;exact⟨m',hm,σ3,H3,I3,w3⟩
  |cont=>
   obtain⟨σ3,H3,I3,n3⟩:=q3;obtain⟨m',hm,w3⟩:=hN σ3 H3 n3;exact⟨m',hm,σ3,H3,I3,w3⟩
  |brk=>exact q3
  |ret v=>exact q3
 |false=>
  rw[if_neg Bool.false_ne_true];exact wpAny_execs_nil ⟨σ1,H2,I2,q2⟩
end
structure It where
 go:Nat->Hp->Prop
 yld:Nat->Hp->V->Hp->Prop
 stop:Nat->Hp->Prop
abbrev gQ (X:Cx)(Y:KG)(H:Hp)(b:Addr):Prop:=
 H b=none/\b≠X.env.locals/\b ∉ X.fs/\(b ∈ X.ex\/X.s₀.heap.objs.size<=b)/\(∀ x c,X.env.cells.lookup x=some c->c≠b)/\∀ p ∈ X.pn++Y,p.1≠b
def Inv.uS {X:Cx}{H':Hp}(I:Inv X Y U H s)(hb:s.heap.objs.size<=b)(hn:H' b=none):gQ X Y H' b:=by
 refine⟨hn,Nat.ne_of_gt (nl I.lt hb),I.Iv hb,.inr (Nat.le_trans I.sz hb),λx c e z=>?_,λp hp z=>?_⟩
 .obtain⟨v,q⟩:=I.cell x c e;exact absurd (nl q.lt (by rw[z];exact hb)) (Nat.lt_irrefl _)
 .exact absurd (nl (sK (I.pin p hp).1) (by rw[z];exact hb)) (Nat.lt_irrefl _)
structure Turn (P:Program) (w:World) (K:W.Frag) (tg:Expr) (J:It) (fp:List Addr) (it:Addr) (tn:Nat->Heap->Prop):Prop where
 mem:it ∈ fp
 obj:∀ i h,tn i h->∀ b ∈ fp,∃ o,h.get? b=some o/\∀ v,o.data≠.cell v
 keep:∀ i h h',tn i h->(∀ b ∈ fp,∀ o,h.get? b=some o->h'.get? b=some o)->tn i h'
 item:∀ (X:Cx),X.prog=P->X.w=w->X.K=K->X.calm=true->∀ (i:Nat) (Y:KG) (s:Shared) (U:St) (H:Hp) (E:KD),Inv X Y U H s->(∀ b ∈ fp,gQ X Y H b)->tn i s.heap->J.go i H->
  wpAny (model P w) X.A (pyNext (.ref it)) (λr s1=>∃ u,r=some u/\
   wpAny (model P w) X.A (letOwnedTupleGo tg (.ref it) u) (λ_ s2=>∃ x H',Inv X Y U H' s2/\RelV x u/\J.yld i H x H'/\tn (i+1) s2.heap/\∀ b ∈ fp,H' b=none) E s1) E s
 done:∀ (X:Cx),X.prog=P->X.w=w->X.K=K->X.calm=true->∀ (i:Nat) (Y:KG) (s:Shared) (U:St) (H:Hp) (E:KD),Inv X Y U H s->(∀ b ∈ fp,gQ X Y H b)->tn i s.heap->J.stop i H->
  wpAny (model P w) X.A (pyNext (.ref it)) (λr s1=>r=none/\Inv X Y U H s1) E s
 self:∀ (A:Around) (i:Nat) (s:Shared) (Q:KD) (E:KD),tn i s.heap->Q (.ref it) s->wpAny (model P w) A (pyIter (.ref it)) Q E s
@[reducible]def TI:=St->Hp->(It->Hp->Prop)->Prop
abbrev G7 (X:Cx)(Y:KG)(U:St)(tg:Expr)(R:It->Hp->Prop)(itv:Value)(s2:Shared):Prop:=
 ∃ (it:Addr) (fp:List Addr) (tn:Nat->Heap->Prop) (J:It) (H':Hp),itv=.ref it/\Inv X Y U H' s2/\Turn X.prog X.w X.K tg J fp it tn/\tn 0 s2.heap/\(∀ b ∈ fp,gQ X Y H' b)/\R J H'
abbrev PI (X:Cx)(tg iter:Expr)(wi:TI):Prop:=
 ∀ (Y:KG) (s:Shared) (U:St) (H:Hp) (R:It->Hp->Prop),Inv X Y U H s->wi U H R->
  wpAny (model X.prog X.w) X.A (eval iter X.env) (λv s1=>wpAny (model X.prog X.w) X.A (pyIter v) (G7 X Y U tg R) X.xe s1) X.xe s
def tI {it:Addr}{o:Obj}{n:String}{vs:Array Value}{Q:KC}(ho:s.heap.get? it=some o)(hc:o.cls=.type n)(hd:o.data=.fields vs)
  (hn:["enumerate","zip","dict_itemiterator","dict_reverseitemiterator","odict_iterator","itertools.zip_longest","itertools.pairwise"].contains n=false) (hQ:Q () s):wpAny M A (letOwnedTupleGo tg (.ref it) u) Q E s:=by
 unfold letOwnedTupleGo;cases tg<;>first
  |exact am hQ
  |(cases u<;>first
    |exact am hQ
    |(refine ad (wpAny_load ho ?_)
      rw[hc,hd];show wpAny M A (if(["enumerate","zip","dict_itemiterator","dict_reverseitemiterator","odict_iterator","itertools.zip_longest","itertools.pairwise"].contains n&&vs[0]? ==some (rawInt _))=true then _ else _) Q E s;rw[if_neg (by intro h;rw[hn,Bool.false_and]at h;cases h)];exact am hQ))
abbrev EZ (K:W.Frag)(a:Addr):It:=
 ⟨λi H=>∃ xs x,aY K H a xs/\xs[i]? =some x,λi H x H'=>H'=H/\∀ xs,aY K H a xs->xs[i]? =some x,λi H=>∃ xs,aY K H a xs/\xs.length<=i⟩
abbrev F8 (K:W.Frag)(a:Addr):It:=
 ⟨λi H=>∃ xs x,aZ K H a xs/\xs[i]? =some x,λi H x H'=>H'=H/\∀ xs,aZ K H a xs->xs[i]? =some x,λi H=>∃ xs,aZ K H a xs/\xs.length<=i⟩
abbrev BY (lo:Int)(n:Nat):It:=⟨λi _=>i<n,λi H x H'=>H'=H/\x=.int (lo+i),λi _=>n<=i⟩
def u5 (a it:Addr):Turn P w K tg (EZ K a) [it] it (λi h=>h.IsListIter it a i) where
 mem:=by simp
 obj:=λi h st b hb=>by
  have e:b=it:=by simpa using hb
  subst e;obtain⟨o,e,c,d⟩:=st;exact⟨o,e,λv z=>by rw[d]at z;cases z⟩
 keep:=λi h h' st k=>st.at λo e=>k it (by simp) o e
 item:=by
  intro X hP hw hK hc i Y s U H E I hf st hg;subst hP hw hK;obtain⟨xs,x,hq,hx⟩:=hg;obtain⟨its,rv,p,hz⟩:=I.list hq;obtain⟨u,hu,ru⟩:=rv.get hx;obtain⟨f0,f1,f2,f3,f4,f5⟩:=hf it (by simp);refine wpAny_pyNext_list_item st p.isList (x:=u) (by simpa using hu) λh' st' sb=>?_
  have I1:Inv X Y U H { s with heap:=h' }:=I.turned (t':=s.toks) (λb o hb e=>(sb.2 b hb).trans e) f0 f1 f3 f4 f5;obtain⟨o,e,c,d⟩:=id st';exact⟨u,rfl,tI (s:={ s with heap:=h' }) e c d (by decide) ⟨x,H,I1,ru,⟨rfl,λys hy=>by rw[I.j7 hy hq];exact hx⟩,st',λb hb=>(hf b hb).1⟩⟩
 done:=by
  intro X hP hw hK hc i Y s U H E I hf st hg;subst hP hw hK;obtain⟨xs,hq,hx⟩:=hg;obtain⟨its,rv,p,hz⟩:=I.list hq;obtain⟨f0,f1,f2,f3,f4,f5⟩:=hf it (by simp);have hl:=rv.length;exact wpAny_pyNext_list_end (I.ok.hd hc) st p.isList (by simp;omega) λh' eb=>⟨rfl,I.turned (t':=s.toks) (λb o hb e=>eb b o hb e) f0 f1 f3 f4 f5⟩
 self:=λ_ _ _ _ _ st h=>wpAny_pyIter_listiter st h
def p6 (a it:Addr):Turn P w K tg (F8 K a) [it] it (λi h=>h.IsTupleIter it a i) where
 mem:=by simp
 obj:=λi h st b hb=>by
  have e:b=it:=by simpa using hb
  subst e;obtain⟨o,e,c,d⟩:=st;exact⟨o,e,λv z=>by rw[d]at z;cases z⟩
 keep:=λi h h' st k=>st.at λo e=>k it (by simp) o e
 item:=by
  intro X hP hw hK hc i Y s U H E I hf st hg;subst hP hw hK;obtain⟨xs,x,hq,hx⟩:=hg;obtain⟨its,rv,p,hz⟩:=I.tuple hq;obtain⟨u,hu,ru⟩:=rv.get hx;obtain⟨f0,f1,f2,f3,f4,f5⟩:=hf it (by simp);refine wpAny_pyNext_tuple_item st (show s.heap.IsTuple a its.toArray from p) (x:=u) (by simpa using hu) λh' st' sb=>?_
  have I1:Inv X Y U H { s with heap:=h' }:=I.turned (t':=s.toks) (λb o hb e=>(sb.2 b hb).trans e) f0 f1 f3 f4 f5;obtain⟨o,e,c,d⟩:=id st';exact⟨u,rfl,tI (s:={ s with heap:=h' }) e c d (by decide) ⟨x,H,I1,ru,⟨rfl,λys hy=>by rw[I.gX hy hq];exact hx⟩,st',λb hb=>(hf b hb).1⟩⟩
 done:=by
  intro X hP hw hK hc i Y s U H E I hf st hg;subst hP hw hK;obtain⟨xs,hq,hx⟩:=hg;obtain⟨its,rv,p,hz⟩:=I.tuple hq;obtain⟨f0,f1,f2,f3,f4,f5⟩:=hf it (by simp);have hl:=rv.length;exact wpAny_pyNext_tuple_end (I.ok.hd hc) st (show s.heap.IsTuple a its.toArray from p) (by simp;omega) λh' eb=>⟨rfl,I.turned (t':=s.toks) (λb o hb e=>eb b o hb e) f0 f1 f3 f4 f5⟩
 self:=λ_ _ _ _ _ st h=>wpAny_pyIter_tupleiter st h
def qx (it:Addr)(lo:Int)(n:Nat):Turn P w K tg (BY lo n) [it] it (λi h=>IsRangeIter h it (lo+(i:Nat)*1) ((n:Int)-(i:Nat)) 1) where
 mem:=by simp
 obj:=λi h st b hb=>by
  have e:b=it:=by simpa using hb
  subst e;exact⟨_,st,λv z=>by
   have z':Data.fields _=Data.cell v:=z;cases z'⟩
 keep:=λi h h' st k=>k it (by simp) _ st
 item:=by
  intro X hP hw hK hc i Y s U H E I hf st hg;subst hP hw hK;obtain⟨f0,f1,f2,f3,f4,f5⟩:=hf it (by simp);have W:=Walks.range (prog:=X.prog) (w:=X.w) (I.ok.hd hc) it lo 1 n;refine W.item i s _ _ hg st λv h' tk hv st' kk=>?_
  obtain⟨t,rfl⟩:=hv;have I1:Inv X Y U H { s with heap:=h',toks:=tk }:=I.turned (λb o hb e=>kk b o (by simpa using hb) e) f0 f1 f3 f4 f5;refine⟨_,rfl,tI (s:={ s with heap:=h',toks:=tk }) (n:="range_iterator") st' rfl rfl (by decide) ⟨.int (lo+i),H,I1,⟨t,?_⟩,⟨rfl,rfl⟩,st',λb hb=>(hf b hb).1⟩⟩;rw[Int.mul_one]
 done:=by
  intro X hP hw hK hc i Y s U H E I hf st hg;subst hP hw hK;obtain⟨f0,f1,f2,f3,f4,f5⟩:=hf it (by simp);exact wpAny_pyNext_range_end (I.ok.hd hc) st (by have:n<=i:=hg;omega) λh' eb=>⟨rfl,I.turned (t':=s.toks) (λb o hb e=>eb b o hb e) f0 f1 f3 f4 f5⟩
 self:=λ_ _ _ _ _ st h=>wpAny_pyIter_rangeiter st h
variable {pos:Pos}{fp:List Addr}
section
variable {X:Cx}{tg:Expr}
def pe {R:It->Hp->Prop}{lo hi:Int}{t u v:Tok}{tk:Nat}(I:Inv X Y U H s)(h1: -(2 ^ 62)<=lo)(h2:lo<2 ^ 62)(h3: -(2 ^ 62)<=hi)(h4:hi<2 ^ 62)
  (q:R (BY lo (hi-lo).toNat) H):wpAny (model X.prog X.w) X.A (pyIter (.ref s.heap.objs.size)) (G7 X Y U tg R) E { s with heap:=s.heap.push { cls:=.type "range",data:=.fields #[.int lo t,.int hi u,.int 1 v] },toks:=tk }:=by
 refine wpAny_pyIter_range (IsRange.new ..) (small_one h1 h2 h3 h4) ?_;have I1:Inv X Y U H { s with heap:=s.heap.push { cls:=.type "range",data:=.fields #[.int lo t,.int hi u,.int 1 v] },toks:=tk }:=I.kept λb o e=>sw _ e
 refine⟨(s.heap.push { cls:=.type "range",data:=.fields #[.int lo t,.int hi u,.int 1 v] }).objs.size,[(s.heap.push { cls:=.type "range",data:=.fields #[.int lo t,.int hi u,.int 1 v] }).objs.size],_,_,H,rfl,
  I1.kept (t':=tk) λb o e=>sw _ e,qx _ lo (hi-lo).toNat,?_,λb hb=>?_,q⟩
 .have e1:lo+((0:Nat):Int)*1=lo:=by simp
  have e2:(((hi-lo).toNat:Nat):Int)-((0:Nat):Int)=Builtin.Range.rangeSize lo hi 1:=by rw[rangeSize_one];split<;>omega
  show IsRangeIter _ _ (lo+((0:Nat):Int)*1) ((((hi-lo).toNat:Nat):Int)-((0:Nat):Int)) 1;rw[e1,e2];exact tz _ rfl
 .have e:b=(s.heap.push { cls:=.type "range",data:=.fields #[.int lo t,.int hi u,.int 1 v] }).objs.size:=by simpa using hb
  subst e;exact I1.uS (pc _) (I1.hok.fresh (pc _))
abbrev FN (ta:TA):TI:=λU H R=>ta U H λvs H1=>∃ j:Int,vs=[.int j]/\ -(2 ^ 62)<=j/\j<2 ^ 62/\R (BY 0 j.toNat) H1
abbrev F0 (ta:TA):TI:=λU H R=>ta U H λvs H1=>∃ i j:Int,vs=[.int i,.int j]/\(-(2 ^ 62)<=i/\i<2 ^ 62/\ -(2 ^ 62)<=j/\j<2 ^ 62)/\R (BY i (j-i).toNat) H1
def tP {a:Expr}{ta:TA}{p:Pos}(hg:Gl X "range") (hm:X.mg "range"=none) (ha:PA X [a] ta) (hs:bm [a] X.env=[(false,eval a X.env)]:=by rfl):PI X tg (.Call (.Name "range" p) [a] [] pos) (FN ta):=by
 intro Y s U H R I h;refine Call_ (cn I hg hm boot_range (PyProof.Rows.callWith_type1 (aw (ha pos Y s U H _ I h) λus s1 ⟨vs,H1,I1,r1,q1⟩=>?_) hs rfl));obtain⟨j,e,q1,q2,q⟩:=q1;subst e;cases r1 with
 |cons r rr=>
  cases rr;obtain⟨t,rfl⟩:=r;exact call_range_1 (pe I1 nofun nofun q1 q2 (by simpa using q))
def ue {a b:Expr}{ta:TA}{p:Pos}(hg:Gl X "range") (hm:X.mg "range"=none) (ha:PA X [a,b] ta) (hs:bm [a,b] X.env=[(false,eval a X.env),(false,eval b X.env)]:=by rfl) (hs2:bm [b] X.env=[(false,eval b X.env)]:=by rfl):
  PI X tg (.Call (.Name "range" p) [a,b] [] pos) (F0 ta):=by
 intro Y s U H R I h;refine Call_ (cn I hg hm boot_range (PyProof.Rows.callWith_type1 (aw (ha pos Y s U H _ I h) λus s1 ⟨vs,H1,I1,r1,q1⟩=>?_) (by rw[hs,hs2]) (by rw[hs2];rfl)));obtain⟨i,j,e,⟨q1,q2,q3,q4⟩,q⟩:=q1;subst e;cases r1 with
 |cons r rr=>
  cases rr with
  |cons r' rr=>
   cases rr;obtain⟨t,rfl⟩:=r;obtain⟨t',rfl⟩:=r';exact call_range_2 (pe I1 q1 q2 q3 q4 q)
abbrev Jm (wi:TI)(g:TG)(tb:TS):TS:=λD U H=>wi U H λJ H1=>∃ W:Nat->Nat->St->Hp->Prop,(∃ m,W 0 m U H1)/\∀ i m U H,W i m U H->
 (J.stop i H/\D.nx U H)\/(J.go i H/\∃ N:St->Hp->Prop,(∀ σ' H',N σ' H'->∃ m',m'<m/\W (i+1) m' σ' H')/\∀ x H',J.yld i H x H'->g x U H' λσ2 H2=>tb { D with nx:=N,ct:=N,bk:=D.nx } σ2 H2)
abbrev l9 (fp:List Addr)(h:Heap):List (Addr×Obj):=fp.filterMap λb=>(h.get? b).map λo=>(b,o)
def bH {o:Obj}(hb:b ∈ fp)(e:h.get? b=some o):(b,o) ∈ l9 fp h:=List.mem_filterMap.mpr ⟨b,hb,by rw[e];rfl⟩
def uf {p:Addr×Obj}(hp:p ∈ l9 fp h):p.1 ∈ fp/\h.get? p.1=some p.2:=by
 obtain⟨b,hb,e⟩:=List.mem_filterMap.mp hp;cases q:h.get? b with
 |none=>rw[q]at e;cases e
 |some o=>
  rw[q]at e;have e':(b,o)=p:=Option.some.inj e;subst e';exact⟨hb,q⟩
def Inv.pinned (I:Inv X Y U H s)(hf:∀ b ∈ fp,gQ X Y H b) (ho:∀ b ∈ fp,∃ o,s.heap.get? b=some o/\∀ v,o.data≠.cell v):Inv X (Y++l9 fp s.heap) U H s:=
 I.m9 λp hp=>(mem_append.mp hp).elim (λz=>I.pin p (ii _ z)) λz=>by
  obtain⟨hb,e⟩:=uf z;obtain⟨f0,f1,f2,_⟩:=hf p.1 hb;obtain⟨o,e',d⟩:=ho p.1 hb;rw[e]at e';cases e';exact⟨e,f0,f1,f2,d⟩
def Inv.dY {pl:KG}(I:Inv X (Y++pl) U H s):Inv X Y U H s:=I.m9 λp hp=>I.pin p (ii _ (mem_append_left _ hp))
def DQ {iter:Expr}{wi:TI}{g:TG}{tb:TS}(hp:PassesOwn (model X.prog X.w) X.A X.env X.xe)(hc:X.calm=true)(hi:PI X tg iter wi)(hg:PG X tg g)(hb:AQ X body tb)
  (hs:∀ x,foldedSetIterable iter X.env x=pure x:=by intro _;rfl):PS X (.For tg iter body [] pos) (Jm wi g tb):=by
 intro Y s U H D I h;refine wpAny_For (aw (hi Y s U H _ I h) λv s1 h1=>aw h1 λitv s2 h2=>?_) hs;obtain⟨it,fp,tn,J,H2,e,I2,T,nB,f2,W,⟨m0,w0⟩,turn⟩:=h2;subst e;have stat:∀ {H':Hp},(∀ b ∈ fp,H' b=none)->∀ b ∈ fp,gQ X Y H' b:=λhn b hb=>⟨hn b hb,(f2 b hb).2⟩
 refine codeAny_forLoop_any (λn s'=>∃ i σ' H',Inv X Y σ' H' s'/\tn i s'.heap/\(∀ b ∈ fp,H' b=none)/\W i n σ' H') ?_ m0 ⟨0,U,H2,I2,nB,λb hb=>(f2 b hb).1,w0⟩;rintro n s3 ⟨i,σ3,H3,I3,st3,fr3,w3⟩;rcases turn i n σ3 H3 w3 with⟨stop,qn⟩|⟨go,N,hN,step⟩
 .refine wpAny_passesOwn hp (aw (T.done X rfl rfl rfl hc i Y s3 σ3 H3 X.xe I3 (stat fr3) st3 stop) λr s4 ⟨hr,I4⟩=>?_);subst hr;exact wpAny_execs_nil ⟨σ3,H3,I4,qn⟩
 .refine wpAny_passesOwn hp (aw (T.item X rfl rfl rfl hc i Y s3 σ3 H3 X.xe I3 (stat fr3) st3 go) λr s4 ⟨u,hr,h4⟩=>?_);subst hr;refine wpAny_passesOwn hp (aw h4 λ_ s5 ⟨x,H5,I5,r5,y5,st5,fr5⟩=>?_);have I5':=I5.pinned (stat fr5) (T.obj _ _ st5);refine wpAny_passesOwn hp (aw (hg _ s5 σ3 H5 x u _ I5' r5 (step x H5 y5)) λ_ s6 ⟨σ6,H6,I6,q6⟩=>?_);refine wpAny_passesOwn hp (aw (hb _ s6 σ6 H6 _ I6 q6) λf s7 q7=>?_);have again:∀ {σ7:St}{H7:Hp},Inv X (Y++l9 fp s5.heap) σ7 H7 s7->N σ7 H7->∃ m,m<n/\∃ i σ' H',Inv X Y σ' H' s7/\tn i s7.heap/\(∀ b ∈ fp,H' b=none)/\W i m σ' H':=λ{σ7 H7} I7 n7=>by
   obtain⟨m',hm,w7⟩:=hN σ7 H7 n7;refine⟨m',hm,i+1,σ7,H7,I7.dY,T.keep _ _ _ st5 λb hb o e=>(I7.pin (b,o) (ii _ (ii _ (bH hb e)))).1,λb hb=>?_,w7⟩;obtain⟨o,e,d⟩:=T.obj _ _ st5 b hb;exact(I7.pin (b,o) (ii _ (ii _ (bH hb e)))).2.1
  cases f with
  |next=>obtain⟨σ7,H7,I7,n7⟩:=q7;exact again I7 n7
  |cont=>obtain⟨σ7,H7,I7,n7⟩:=q7;exact again I7 n7
  |brk=>obtain⟨σ7,H7,I7,q7⟩:=q7;exact⟨σ7,H7,I7.dY,q7⟩
  |ret v=>obtain⟨x7,σ7,H7,I7,r7,q7⟩:=q7;exact⟨x7,σ7,H7,I7.dY,r7,q7⟩
end
@[reducible]def R2:=V->V->Hp->VK->Prop
abbrev cy (X:Cx)(f:Value->Value->Sem Value)(r:R2):Prop:=
 ∀ (Y:KG) (s:Shared) (U:St) (H:Hp) (x y:V) (v u:Value) (Q:VK),Inv X Y U H s->RelV x v->RelV y u->r x y H Q->
  wpAny (model X.prog X.w) X.A (f v u) (EP X Y U Q) X.xe s
abbrev Hv (X:Cx)(f:Value->Sem Value)(r:V->Hp->VK->Prop):Prop:=
 ∀ (Y:KG) (s:Shared) (U:St) (H:Hp) (x:V) (v:Value) (Q:VK),Inv X Y U H s->RelV x v->r x H Q->
  wpAny (model X.prog X.w) X.A (f v) (EP X Y U Q) X.xe s
abbrev cB (X:Cx)(f:Value)(r:List V->Hp->VK->Prop):Prop:=
 ∀ (Y:KG) (s:Shared) (U:St) (H:Hp) (xs:List V) (us:List Value) (Q:VK),Inv X Y U H s->Vals xs us->r xs H Q->
  wpAny (model X.prog X.w) X.A (call f us) (EP X Y U Q) X.xe s
abbrev ID (X:Cx)(r:V->Hp->(Bool->Hp->Prop)->Prop):Prop:=
 ∀ (Y:KG) (s:Shared) (U:St) (H:Hp) (x:V) (v:Value) (Q:Bool->Hp->Prop),Inv X Y U H s->RelV x v->r x H Q->
  wpAny (model X.prog X.w) X.A (truthy v) (TP X Y U Q) X.xe s
abbrev HM (r:R2)(ta tb:TE):TE:=λU H Q=>ta U H λx H1=>tb U H1 λy H2=>r x y H2 Q
abbrev J0 (r:V->Hp->VK->Prop)(ta:TE):TE:=λU H Q=>ta U H λx H1=>r x H1 Q
abbrev rI (C:Int->Int->Prop)(g:Int->Int->V):R2:=λx y H Q=>∃ i j,x=.int i/\y=.int j/\C i j/\Q (g i j) H
abbrev yZ (g:Int->Int->V):R2:=λx y H Q=>∃ i j,x=.int i/\y=.int j/\Q (g i j) H
abbrev rU (g:Int->V):V->Hp->VK->Prop:=λx H Q=>∃ i,x=.int i/\Q (g i) H
variable {f:Value->Value->Sem Value}{r:R2}{g:Int->Int->Int}
section
variable {X:Cx}{a b c:Expr}{ta tb tc:TE}{pos:Pos}
def Dn (ha:PE X a ta)(hb:PE X b tb){R:V->V->Hp->Prop}(I:Inv X Y U H s)
  (h:ta U H λx H1=>tb U H1 λy H2=>R x y H2)
  (hf:∀ v u s2 x y H2,Inv X Y U H2 s2->RelV x v->RelV y u->R x y H2->wpAny (model X.prog X.w) X.A (f v u) Q X.xe s2):
  wpAny (model X.prog X.w) X.A (eval a X.env) (λv s₁=>wpAny (model X.prog X.w) X.A (eval b X.env) (λu s₂=>wpAny (model X.prog X.w) X.A (f v u) Q X.xe s₂) X.xe s₁) X.xe s:=by
 refine aw (ha Y s U H _ I h) λv s1 ⟨x,H1,I1,r1,q1⟩=>?_
 refine aw (hb Y s1 U H1 _ I1 q1) λu s2 ⟨y,H2,I2,r2,q2⟩=>?_
 exact hf v u s2 x y H2 I2 r1 r2 q2
def Fo (ho:cy X (binaryOp op) r)(ha:PE X a ta)(hb:PE X b tb):PE X (.BinOp a op b pos) (HM r ta tb):=by
 intro Y s U H Q I h;exact wpAny_BinOp (Dn ha hb I h λv u s2 x y H2 I2 rx ry q=>ho Y s2 U H2 x y v u Q I2 rx ry q)
def Ge {op:UnaryOp}{r:V->Hp->VK->Prop}(ho:Hv X (unaryOp op) r)(ha:PE X a ta):PE X (.UnaryOp op a pos) (J0 r ta):=by
 intro Y s U H Q I h;exact UnaryOp_ (aw (ha Y s U H _ I h) λv s1 ⟨x,H1,I1,r1,q1⟩=>ho Y s1 U H1 x v Q I1 r1 q1)
def HA {C:Int->Int->Prop}
  (rule:∀ (i j:Int) (t u:Tok) (s:Shared) (Q:KD) (E:KD),C i j->Q (.int (g i j) s.toks) { s with toks:=s.toks+1 }->wpAny (model X.prog X.w) X.A (f (.int i t) (.int j u)) Q E s):
  cy X f (rI C λi j=>.int (g i j)):=by
 intro Y s U H x y v u Q I rx ry h;obtain⟨i,j,rfl,rfl,hc,q⟩:=h;obtain⟨t,rfl⟩:=rx;obtain⟨t',rfl⟩:=ry;exact rule i j t t' s _ _ hc ⟨.int (g i j),H,I.tok _,⟨_,rfl⟩,q⟩
def FX 
  (rule:∀ (i j:Int) (t u:Tok) (s:Shared) (Q:KD) (E:KD),Q (.int (g i j) s.toks) { s with toks:=s.toks+1 }->wpAny (model X.prog X.w) X.A (f (.int i t) (.int j u)) Q E s):
  cy X f (yZ λi j=>.int (g i j)):=by
 intro Y s U H x y v u Q I rx ry h;obtain⟨i,j,rfl,rfl,q⟩:=h;obtain⟨t,rfl⟩:=rx;obtain⟨t',rfl⟩:=ry;exact rule i j t t' s _ _ ⟨.int (g i j),H,I.tok _,⟨_,rfl⟩,q⟩
def A2 {g:Int->Int->Bool}
  (rule:∀ (i j:Int) (t u:Tok) (s:Shared) (Q:KD) (E:KD),Q (.bool (g i j)) s->wpAny (model X.prog X.w) X.A (f (.int i t) (.int j u)) Q E s):
  cy X f (yZ λi j=>.bl (g i j)):=by
 intro Y s U H x y v u Q I rx ry h;obtain⟨i,j,rfl,rfl,q⟩:=h;obtain⟨t,rfl⟩:=rx;obtain⟨t',rfl⟩:=ry;exact rule i j t t' s _ _ ⟨.bl (g i j),H,I,rfl,q⟩
abbrev IP (i j:Int):Prop:=0<j/\j<1073741824
abbrev Am (i j:Int):Prop:=0<=j/\j<=1000000/\i.natAbs<2 ^ 64
abbrev pT (i j:Int):Prop:=(-(2 ^ 64)<i/\i<2 ^ 64)\/(-(2 ^ 64)<j/\j<2 ^ 64)
def pT.ok {i j:Int}(h:pT i j):IntMulOk i j:=by
 rcases h with⟨h1,h2⟩|⟨h1,h2⟩
 .exact .of_left (intBits_le_64 h1 h2)
 .exact .of_right (intBits_le_64 h1 h2)
def CF:cy X (binaryOp .Add) (yZ λi j=>.int (i+j)):=FX λ_ _ _ _ _ _ _ q=>add_int q
def Eb:cy X (binaryOp .Sub) (yZ λi j=>.int (i-j)):=FX λ_ _ _ _ _ _ _ q=>sub_int q
def Ek:cy X (binaryOp .Mult) (rI pT λi j=>.int (i*j)):=HA λ_ _ _ _ _ _ _ hc q=>mul_int q hc.ok
def zQ:cy X (binaryOp .FloorDiv) (rI IP λi j=>.int (i / j)):=HA λi j _ _ _ _ _ hc q=>by
 have h1:(0:Int)<j:=hc.1;have h2:j<1073741824:=hc.2;exact floordiv_int nofun (by rw[Int.fdiv_eq_ediv_of_nonneg i nofun];exact q) (.inl (PyProof.noPylong_small nofun))
def EA:cy X (binaryOp .Mod) (rI (λ_ j=>0<j) λi j=>.int (i % j)):=HA λi j _ _ _ _ _ hc q=>by
 have h1:(0:Int)<j:=hc;exact mod_int' nofun (by rw[Int.fmod_eq_emod_of_nonneg i nofun];exact q)
def Ed:cy X (binaryOp .Pow) (rI Am λi j=>.int (i ^ j.toNat)):=HA λ_ _ _ _ _ _ _ hc q=>pow_int_small hc.1 hc.2.1 hc.2.2 q
def Kg {f:Value->Sem Value}{g:Int->Int}
  (rule:∀ (i:Int) (t:Tok) (s:Shared) (Q:KD) (E:KD),Q (.int (g i) s.toks) { s with toks:=s.toks+1 }->wpAny (model X.prog X.w) X.A (f (.int i t)) Q E s):
  Hv X f (rU λi=>.int (g i)):=by
 intro Y s U H x v Q I rx h;obtain⟨i,rfl,q⟩:=h;obtain⟨t,rfl⟩:=rx;exact rule i t s _ _ ⟨.int (g i),H,I.tok _,⟨_,rfl⟩,q⟩
def C4:Hv X (unaryOp .USub) (rU λi=>.int (-i)):=Kg λ_ _ _ _ _ q=>neg_int q
end
section
variable {X:Cx}{a b c:Expr}{ta tb tc:TE}{pos:Pos}
def wb {Q:VK}{k k':Bool}(I:Inv X Y U H s)(q:Q (.bl k) H)(e:k=k'):EP X Y U Q (.bool k') s:=by
 subst e;exact⟨.bl k,H,I,rfl,q⟩
def Fp:cy X (compareOp .Lt) (yZ λi j=>.bl (decide (i<j))):=A2 λ_ _ _ _ _ _ _ q=>lt_int q
def Gp:cy X (compareOp .LtE) (yZ λi j=>.bl (decide (i<=j))):=A2 λ_ _ _ _ _ _ _ q=>le_int q
def FT:cy X (compareOp .Gt) (yZ λi j=>.bl (decide (j<i))):=A2 λ_ _ _ _ _ _ _ q=>gt_int q
def GX:cy X (compareOp .GtE) (yZ λi j=>.bl (decide (j<=i))):=A2 λ_ _ _ _ _ _ _ q=>ge_int q
def Eh:cy X (compareOp .Is) (λx y H Q=>y=.non/\Q (.bl (decide (x=.non))) H):=by
 intro Y s U H x y v u Q I rx ry h;obtain⟨rfl,q⟩:=h;cases ry;refine is_none_gen (wb I q ?_);cases x<;>first
  |(cases rx;rfl)
  |(obtain⟨t,rfl⟩:=rx;rfl)
def zU:cy X (compareOp .IsNot) (λx y H Q=>y=.non/\Q (.bl (!decide (x=.non))) H):=by
 intro Y s U H x y v u Q I rx ry h;obtain⟨rfl,q⟩:=h;cases ry;refine isnot_none_gen (wb I q ?_);cases x<;>first
  |(cases rx;rfl)
  |(obtain⟨t,rfl⟩:=rx;rfl)
def zZ {op:CmpOp}(ho:cy X (compareOp op) r)(ha:PE X a ta)(hb:PE X b tb)(hm:behindInMarks op b=false):PE X (.Compare a [op] [b] pos) (HM r ta tb):=by
 intro Y s U H Q I h;exact wpAny_Compare1 (Dn ha hb I h λv u s2 x y H2 I2 rx ry q=>ho Y s2 U H2 x y v u Q I2 rx ry q) hm
abbrev Cc (t:TE):TT:=λU H Q=>t U H λx H'=>∃ k,x=.bl k/\Q k H'
def AU {op:CmpOp}(ho:cy X (compareOp op) r)(ha:PE X a ta)(hb:PE X b tb)(hm:behindInMarks op b=false):PT X (.Compare a [op] [b] pos) (Cc (HM r ta tb)):=by
 intro Y s U H Q I h;refine wpAny_isTrue_Compare1 (aw (ha Y s U H _ I h) λv s1 ⟨x,H1,I1,r1,q1⟩=>aw (hb Y s1 U H1 _ I1 q1) λu s2 ⟨y,H2,I2,r2,q2⟩=>
  aw (ho Y s2 U H2 x y v u _ I2 r1 r2 q2) λc s3 ⟨z,H3,I3,r3,k,e,q3⟩=>?_) hm
 subst e;cases r3;exact bi ⟨H3,I3,q3⟩
abbrev xG (r r':R2)(ta tb tc:TE):TE:=λU H Q=>ta U H λx H1=>tb U H1 λy H2=>r x y H2 λz H3=>∃ k,z=.bl k/\
 (if k=true then tc U H3 λw' H4=>r' y w' H4 Q else Q (.bl false) H3)
def xV {op op':CmpOp}{r':R2}(ho:cy X (compareOp op) r)(ho':cy X (compareOp op') r')(ha:PE X a ta)(hb:PE X b tb)(hc:PE X c tc)
  (hm:lastMarks [op,op'] [b,c]=false:=by with_unfolding_all rfl):PE X (.Compare a [op,op'] [b,c] pos) (xG r r' ta tb tc):=by
 intro Y s U H Q I h;refine Compare_chain (aw (ha Y s U H _ I h) λv s1 ⟨x,H1,I1,r1,q1⟩=>chain_link (aw (hb Y s1 U H1 _ I1 q1) λu s2 ⟨y,H2,I2,r2,q2⟩=>
  aw (ho Y s2 U H2 x y v u _ I2 r1 r2 q2) λd s3 ⟨z,H3,I3,r3,k,e,q3⟩=>?_)) hm
 subst e;cases r3;refine bi ?_;cases k with
 |false=>exact ite_ff ⟨.bl false,H3,I3,rfl,q3⟩
 |true=>exact ite_tt (chain_last (aw (hc Y s3 U H3 _ I3 q3) λw' s4 ⟨z',H4,I4,r4,q4⟩=>ho' Y s4 U H4 y z' u w' Q I4 r2 r4 q4))
def yu {op op':CmpOp}{r':R2}(ho:cy X (compareOp op) r)(ho':cy X (compareOp op') r')(ha:PE X a ta)(hb:PE X b tb)(hc:PE X c tc)
  (hm:lastMarks [op,op'] [b,c]=false:=by with_unfolding_all rfl):PT X (.Compare a [op,op'] [b,c] pos) (Cc (xG r r' ta tb tc)):=by
 intro Y s U H Q I h;refine isTrue_chain (aw (ha Y s U H _ I h) λv s1 ⟨x,H1,I1,r1,q1⟩=>test_link (aw (hb Y s1 U H1 _ I1 q1) λu s2 ⟨y,H2,I2,r2,q2⟩=>
  aw (ho Y s2 U H2 x y v u _ I2 r1 r2 q2) λd s3 ⟨z,H3,I3,r3,k,e,q3⟩=>?_)) hm
 subst e;cases r3;refine bi ?_;cases k with
 |false=>
  obtain⟨k',e',q'⟩:=q3;cases e';exact ite_ff ⟨H3,I3,q'⟩
 |true=>
  refine ite_tt (test_last (aw (hc Y s3 U H3 _ I3 q3) λw' s4 ⟨z',H4,I4,r4,q4⟩=>aw (ho' Y s4 U H4 y z' u w' _ I4 r2 r4 q4) λd' s5 ⟨z2,H5,I5,r5,k2,e2,q5⟩=>?_));subst e2;cases r5;exact bi ⟨H5,I5,q5⟩
abbrev Ad (K:W.Frag)(x:V)(H:Hp)(k:Bool):Prop:=
 match x with
 | .non=>k=false
 | .bl b=>k=b
 | .int i=>k=(i != 0)
 | .str y=>y.length<=bn/\k=((y.length:Int) != 0)
 | .byt y=>y.size<=bn/\k=((y.size:Int) != 0)
 | .ref p=>(∃ xs,aY K H p xs/\k= !xs.isEmpty)\/(∃ xs,aZ K H p xs/\k= !xs.isEmpty)\/∃ kvs,H p=some (.dK kvs)/\k= !kvs.isEmpty
 |_=>False
def qe {κ:Type}{kvs:List (κ×V)}{vs:List (κ×Value)}(r:KV kvs vs):(!vs.isEmpty)= !kvs.isEmpty:=by
 cases r<;>rfl
def jv {its:List Value}(r:Vals xs its):(!its.toArray.isEmpty)= !xs.isEmpty:=by
 cases r<;>simp
def gY:(bn:Nat)<2 ^ 63:=by rw[sizeLine_eq];decide
def CU:ID X (λx H Q=>∃ k,Ad X.K x H k/\Q k H):=by
 intro Y s U H x v Q I rx h;obtain⟨k,e,q⟩:=h;have hl:=gY;have hs:bn=16777216:=sizeLine_eq;cases x with
 |non=>
  cases rx;have e':k=false:=e;subst e';exact truthy_none ⟨H,I,q⟩
 |bl b=>
  cases rx;have e':k=b:=e;subst e';exact bi ⟨H,I,q⟩
 |int i=>
  obtain⟨t,rfl⟩:=rx;have e':k=(i != 0):=e;subst e';exact PySem.P.truthy_int ⟨H,I,q⟩
 |str y=>
  obtain⟨t,rfl⟩:=rx;obtain⟨hy,e'⟩:y.length<=bn/\k=((y.length:Int) != 0):=e;subst e';exact PySem.P.truthy_str nofun ⟨H,I.tok _,q⟩
 |byt y=>
  obtain⟨t,rfl⟩:=rx;obtain⟨hy,e'⟩:y.size<=bn/\k=((y.size:Int) != 0):=e;subst e';exact W.truthy_bytes nofun ⟨H,I.tok _,q⟩
 |ref p=>
  cases rx;have e':(∃ xs,aY X.K H p xs/\k= !xs.isEmpty)\/(∃ xs,aZ X.K H p xs/\k= !xs.isEmpty)\/∃ kvs,H p=some (.dK kvs)/\k= !kvs.isEmpty:=e;rcases e' with⟨xs,hx,e'⟩|⟨xs,hx,e'⟩|⟨kvs,hx,e'⟩
  .subst e';obtain⟨its,r,pl,hz⟩:=I.list hx;have hlen:=r.length;exact wpAny_truthy_list pl.isList (by simp only[ge];omega) ⟨H,I.tok _,by rw[jv r];exact q⟩
  .subst e';obtain⟨its,r,pl,hz⟩:=I.tuple hx;have hlen:=r.length;exact truthy_tuple pl (by simp only[ge];omega) ⟨H,I.tok _,by rw[jv r];exact q⟩
  .subst e';obtain⟨hz,hS,vs,r,m⟩:kvs.length<=bn/\(p ==sysModules)=false/\∃ vs,KV kvs vs/\s.heap.DictOf (au X.prog X.w) p vs:=I.hok p _ hx;have hlen:kvs.length=vs.length:=Paired.length r;exact wpAny_truthy_dict hS m nofun ⟨H,I.tok _,by rw[qe r];exact q⟩
 |_=>exact(show False from e).elim
def xH (ha:PE X a ta)(he:∀ whole,isTrue a X.env whole=(do let v <-whole;standAt a.pos;holding [v] (truthy v))):
  PT X a (λU H Q=>ta U H λx H'=>∃ k,Ad X.K x H' k/\Q k H'):=by
 intro Y s U H Q I h;exact isTrue_plain (aw (ha Y s U H _ I h) λv s1 ⟨x,H1,I1,r1,q1⟩=>CU Y s1 U H1 x v Q I1 r1 q1) (he _)
def rA:cy X (binaryOp .Add) (λx y H Q=>∃ i j,x=.str i/\y=.str j/\i.length+j.length<=bn/\Q (.str (i++j)) H):=by
 intro Y s U H x y v u Q I rx ry h;obtain⟨i,j,rfl,rfl,hz,q⟩:=h;obtain⟨t,rfl⟩:=rx;obtain⟨t',rfl⟩:=ry;exact add_str (λt' tk=>⟨.str (i++j),H,I.tok _,⟨_,rfl⟩,q⟩) hz
def vals1 {x:V}(r:Vals [x] us):∃ u,us=[u]/\RelV x u:=by
 cases r with
 |cons r1 r2=>cases r2;exact⟨_,rfl,r1⟩
def vals2 {x y:V}(r:Vals [x,y] us):∃ u w',us=[u,w']/\RelV x u/\RelV y w':=by
 cases r with
 |cons r1 r2=>
  cases r2 with
  |cons r3 r4=>cases r4;exact⟨_,_,rfl,r1,r3⟩
def ub (hc:X.calm=true):cB X (.builtin "min") (λxs H Q=>∃ i j,xs=[.int i,.int j]/\Q (.int (if j<i then j else i)) H):=by
 intro Y s U H xs us Q I r h;obtain⟨i,j,rfl,q⟩:=h;obtain⟨u,w',rfl,⟨t,rfl⟩,⟨t',rfl⟩⟩:=vals2 r;refine min_two_ints (I.ok.hd hc) λh' tk k=>⟨_,H,I.kept k,?_,q⟩
 by_cases hj:j<i
 .rw[if_pos hj,if_pos hj];exact⟨_,rfl⟩
 .rw[if_neg hj,if_neg hj];exact⟨_,rfl⟩
def uJ:cB X (.type "int") (λxs H Q=>(∃ i,xs=[.int i]/\Q (.int i) H)\/∃ k,xs=[.bl k]/\Q (.int (if k then 1 else 0)) H):=by
 intro Y s U H xs us Q I r h;rcases h with⟨i,rfl,q⟩|⟨k,rfl,q⟩
 .obtain⟨u,rfl,t,rfl⟩:=vals1 r;exact call_int_int ⟨.int i,H,I,⟨_,rfl⟩,q⟩
 .obtain⟨u,rfl,r1⟩:=vals1 r;cases r1;exact call_int_bool ⟨.int (if k then 1 else 0),H,I.tok _,⟨_,rfl⟩,q⟩
def mN:cB X (.type "str") (λxs H Q=>∃ i,xs=[.int i]/\i.natAbs.log2<1920/\Q (.str (toString i)) H):=by
 intro Y s U H xs us Q I r h;obtain⟨i,rfl,hz,q⟩:=h;obtain⟨u,rfl,t,rfl⟩:=vals1 r;exact PySem.P.str_of_int hz ⟨.str _,H,I.tok _,⟨_,rfl⟩,q⟩
abbrev Gj (K:W.Frag)(x:V)(H:Hp)(n:Nat):Prop:=
 match x with
 | .str y=>y.length<=bn/\n=y.length
 | .byt y=>y.size<=bn/\n=y.size
 | .ref p=>(∃ xs,aY K H p xs/\n=xs.length)\/∃ xs,aZ K H p xs/\n=xs.length
 |_=>False
def vj:cB X (.builtin "len") (λxs H Q=>∃ x n,xs=[x]/\Gj X.K x H n/\Q (.int n) H):=by
 intro Y s U H xs us Q I r h;obtain⟨x,n,rfl,e,q⟩:=h;obtain⟨u,rfl,rx⟩:=vals1 r;have hl:=gY;have hs:bn=16777216:=sizeLine_eq;cases x with
 |str y=>
  obtain⟨t,rfl⟩:=rx;obtain⟨hy,e'⟩:y.length<=bn/\n=y.length:=e;subst e';exact len_str nofun ⟨.int _,H,I.tok _,⟨_,rfl⟩,q⟩
 |byt y=>
  obtain⟨t,rfl⟩:=rx;obtain⟨hy,e'⟩:y.size<=bn/\n=y.size:=e;subst e';exact W.len_bytes nofun ⟨.int _,H,I.tok _,⟨_,rfl⟩,q⟩
 |ref p=>
  cases rx;have e':(∃ xs,aY X.K H p xs/\n=xs.length)\/∃ xs,aZ X.K H p xs/\n=xs.length:=e;rcases e' with⟨xs,hx,e'⟩|⟨xs,hx,e'⟩
  .subst e';obtain⟨its,r',pl,hz⟩:=I.list hx;have hlen:=r'.length;exact Calls.call_len_list pl.isList (by simp only[ge];omega) ⟨.int xs.length,H,I.tok _,⟨_,by simp only[ge];rw[hlen]⟩,q⟩
  .subst e';obtain⟨its,r',pl,hz⟩:=I.tuple hx;have hlen:=r'.length;exact len_tuple pl (by simp only[ge];omega) ⟨.int xs.length,H,I.tok _,⟨_,by simp only[ge];rw[hlen]⟩,q⟩
 |_=>exact(show False from e).elim
end
structure p9 (h:Heap) (x dx C:Addr) (mA:KH):Prop where
 obj:h.get? x=some (W.instObj C dx)
 ns:h.Ns1 dx mA
 ne:dx≠x
variable {mA:KH}
def gG {dx:Addr}(n:h.Ns1 dx mA):∃ od,h.get? dx=some od/\∀ name,W.lookIn name od=some (mA name):=by
 obtain⟨o,es,ep,ho,hd,hk,_,hm⟩:=n;refine⟨o,ho,λname=>?_⟩;have e:=hm name;unfold nsFind findBy at e;rw[<-Array.find?_toList]at e;unfold W.lookIn;rw[hd];dsimp only
 split
 .rename_i y q;rw[q]at e;exact congrArg some e
 .rename_i q;rw[q]at e;have a:es.toList.any (·.refKey)=false:=by
   rw[any_eq_false];intro y hy;obtain⟨z,t,hkey⟩:=hk y (Array.mem_toList_iff.mp hy);simp[DictEntry.refKey,hkey]
  have a':¬ es.toList.any (·.refKey)=true:=by rw[a];exact Bool.false_ne_true
  rw[if_neg a'];exact congrArg some e
variable {C:Addr}
def p9.look {x dx:Addr}(I:p9 h x dx C mA):∃ od,W.InstAt h x (W.instObj C dx) C (some od)/\∀ name,W.lookIn name od=some (mA name):=
 let⟨od,ho,hl⟩:=gG I.ns
 ⟨od,⟨I.obj,rfl,rfl,ho⟩,hl⟩
variable {pl:Sem Bool}{kw:List (Str×Value)}
section
variable {prog:Program}{w:World}{A:Around}{E:KD}{s:Shared}{K:W.Frag}{x dx C f:Addr}{mA:KH}{name:Str}{v:Value}
def get_map {expr:Bool}(X:K.In s.heap)(I:p9 s.heap x dx C mA)(hg:W.plainGet K C name=true)(hh:W.hasDictIn K C=true)
  (ha:W.findIn K (.ref C) name=some none) (hv:mA name=some v) (hv':W.handedIn v=true) (h:Q v { s with toks:=s.toks+1 }):
  wpAny (model prog w) A (getAttr (.ref x) name expr) Q E s:=by
 obtain⟨od,J,hl⟩:=I.look;exact W.get_value X J (W.plainGet_of hg).1 (W.findObj_own hh ha rfl (by rw[hl,hv])) hv' h
def vg {Q:Value×List Value->Shared->Prop}(X:K.In s.heap)(I:p9 s.heap x dx C mA)(hg:W.plainGet K C name=true)
  (hf:W.findIn K (.ref C) name=some (some (.ref f))) (ht:W.isFn K (.ref f)=true) (hv:mA name=none) (h:Q (.ref f,[.ref x]) s):
  wpAny (model prog w) A (getMethod (.ref x) name pl) Q E s:=by
 obtain⟨od,J,hl⟩:=I.look;exact W.method_fn X J (W.plainGet_of hg).1 (W.plainGet_of hg).2 hf (beq_iff_eq.mp ht) (by show(W.lookIn name od).map (·.isSome)=some false;rw[hl,hv];rfl) h
def AM {ns:List Str}{Q:KC}(X:K.In s.heap)(I:p9 s.heap x dx C mA)
  (hs:W.findIn K (.ref C) "__setattr__"=some (some (.builtin "object.__setattr__"))) (hp:W.plainOver K C=true) (ht:W.takerIn K C name=some none) (hh:W.hasDictIn K C=true)
  (hw:PySem.Within mA ns) (hsz:ns.length<=bn)
  (h:∀ h',p9 h' x dx C (λy=>if y=name then some v else mA y)->Heap.SameBut dx s.heap h'->Q () { s with heap:=h',toks:=s.toks+2 }):
  wpAny (model prog w) A (setAttr (.ref x) name v) Q E s:=by
 obtain⟨od,J,hl⟩:=I.look;refine W.set_plain X J hs (W.osa_open (s:={ s with toks:=s.toks+1 }) (r:=none) X J hp ht λb=>?_);obtain⟨cd,hc,hd'⟩:=W.any_some hh;have hx:s.heap.get? x=some ⟨.ref C,some dx,.plain,#[]⟩:=I.obj;refine ad (am (ad (ad (wpAny_loadPart hx (ad (W.Looks.here (s:={ s with toks:=s.toks+1 }) (W.looks_clsIn X hc) ?_))))));rw[hd'];refine am (a:=some dx) (ad (am (ad ?_)));refine wpAny_nsSet1 (s:={ s with toks:=s.toks+1 }) I.ns λh' hn2 hs2=>?_
 obtain⟨oD,esD,epD,hoD,hdD,hcD⟩:=hn2.count (PySem.Within.cons name v hw);refine ad (wpAny_lookBehind hoD (by rw[hdD];exact pastItsLine_dict (Nat.le_trans hcD (by rw[length_cons];omega))) ?_);exact am (h _ ⟨(hs2.2 _ (Ne.symm I.ne)).trans I.obj,hn2,I.ne⟩ hs2)
def xE {R:Result->Shared->Prop}{vs:List Value}(X:K.In s.heap)(hm:W.makesIn K C=true)
  (hi:W.findIn K (.ref C) "__init__"=some (some (.ref f))) (hf:W.typeIn K (.ref f)=some (.type "function"))
  (h:codeAny (model prog w) (A.under (.builtin "type.__call__" ⟨.ref C::vs,kw⟩)) (.call (.ref f) ⟨.ref (s.heap.objs.size+1)::vs,kw⟩) (W.InitBack (s.heap.objs.size+1) R)
   { s with heap:=(s.heap.push W.emptyDict).push (W.instObj C s.heap.objs.size) }):
  codeAny (model prog w) A (.call (.ref C) ⟨vs,kw⟩) R s:=by
 obtain⟨hh,g,d,t,os⟩:=s;exact W.make_core (W.makes_of X hm) (W.looks_findIn X hi) (λself=>W.bind_fn X self hf) (.inl rfl) h
end
abbrev cA (f:Str)(v:V):List (Str×V)->List (Str×V)
 | []=>[(f,v)]
 |(g,x)::r=>if g=f then(g,v)::r else(g,x)::cA f v r
def dy (f g:Str)(v:V):∀ fs:List (Str×V),(cA f v fs).lookup g=if g=f then some v else fs.lookup g
 | []=>by
  show List.lookup g [(f,v)]=_
  by_cases h:g=f
  .have hb:(g ==f)=true:=beq_iff_eq.mpr h;simp only[List.lookup,hb,if_pos h]
  .have hb:(g ==f)=false:=beq_eq_false_iff_ne.mpr h;simp only[List.lookup,hb,if_neg h]
 |(k,x)::r=>by
  have ih:=dy f g v r;rw[show cA f v ((k,x)::r)=(if k=f then(k,v)::r else(k,x)::cA f v r) from rfl]
  by_cases hk:k=f
  .rw[if_pos hk]
   by_cases h:g=k
   .have hb:(g ==k)=true:=beq_iff_eq.mpr h;simp only[List.lookup,hb,if_pos (h.trans hk)]
   .have hb:(g ==k)=false:=beq_eq_false_iff_ne.mpr h;simp only[List.lookup,hb,if_neg (λe:g=f=>h (e.trans hk.symm))]
  .rw[if_neg hk]
   by_cases h:g=k
   .have hb:(g ==k)=true:=beq_iff_eq.mpr h;simp only[List.lookup,hb,if_neg (λe:g=f=>hk (h.symm.trans e))]
   .have hb:(g ==k)=false:=beq_eq_false_iff_ne.mpr h;simp only[List.lookup,hb];exact ih
def cN (f:Str)(v:V):∀ fs:List (Str×V),f ∈ (cA f v fs).map (·.1)/\∀ g,g ∈ fs.map (·.1)->g ∈ (cA f v fs).map (·.1)
 | []=>⟨by simp[cA],λg h=>by simp at h⟩
 |(k,x)::r=>by
  obtain⟨i1,i2⟩:=cN f v r;rw[show cA f v ((k,x)::r)=(if k=f then(k,v)::r else(k,x)::cA f v r) from rfl]
  by_cases hk:k=f
  .rw[if_pos hk];subst hk;exact⟨by simp,λg h=>by simpa using h⟩
  .rw[if_neg hk];refine⟨?_,λg h=>?_⟩
   .rw[map_cons];exact dl _ i1
   .rw[map_cons]at h⊢;rcases li.mp h with e|e
    .exact li.mpr (.inl e)
    .exact dl _ (i2 g e)
def d4 (f:Str)(v:V):∀ fs:List (Str×V),(cA f v fs).length<=fs.length+1
 | []=>by simp[cA]
 |(k,x)::r=>by
  have ih:=d4 f v r;rw[show cA f v ((k,x)::r)=(if k=f then(k,v)::r else(k,x)::cA f v r) from rfl]
  by_cases hk:k=f
  .rw[if_pos hk,length_cons,length_cons];omega
  .rw[if_neg hk,length_cons,length_cons];omega
def cP.some_of {o:Option Value}(r:cP (some v) o):∃ u,o=some u/\RelV v u:=by
 cases o with
 |none=>exact(show False from r).elim
 |some u=>exact⟨u,rfl,r⟩
def cP.none_of {o:Option Value}(r:cP none o):o=none:=by
 cases o with
 |none=>rfl
 |some u=>exact(show False from r).elim
def lM (r:RelV v u):W.handedIn u=true:=by
 cases v with
 |non=>cases(show u=Value.none from r);rfl
 |bl b=>cases(show u=Value.bool b from r);rfl
 |int i=>obtain⟨t,e⟩:=(show ∃ t,u=Value.int i t from r);cases e;rfl
 |str x=>obtain⟨t,e⟩:=(show ∃ t,u=Value.str x t from r);cases e;rfl
 |byt b=>obtain⟨t,e⟩:=(show ∃ t,u=Value.bytes b t from r);cases e;rfl
 |flt b=>obtain⟨t,e⟩:=(show ∃ t,u=Value.float b t from r);cases e;rfl
 |ref a=>cases(show u=Value.ref a from r);rfl
 |ty n=>cases(show u=Value.type n from r);rfl
section
variable {P:Program}{w:World}{H H':Hp}{h h':Heap}{a C dx:Addr}{fs fs':List (Str×V)}
def gr (hok:fu P w H h)(e:H a=some (.ins C dx fs)):∃ mA,p9 h a dx C mA/\(∀ f,cP (fs.lookup f) (mA f))/\PySem.Within mA (fs.map (·.1))/\fs.length<=1000/\H dx=some (.own a):=by
 obtain⟨d,z,ne,ob,mA,n,r,q⟩:=(show aC P w H h a (.ins C dx fs) from hok a _ e);exact⟨mA,⟨ob,n,ne⟩,r,q,z,d⟩
end
structure zT (K:W.Frag) (C:Addr):Prop where
 pg:W.plainGet K C Str.empty=true
 hd:W.hasDictIn K C=true
 po:W.plainOver K C=true
 sa:W.findIn K (.ref C) "__setattr__"=some (some (.builtin "object.__setattr__"))
def zT.get (c:zT K C)(f:Str):W.plainGet K C f=true:=c.pg
abbrev d6 (K:W.Frag)(C:Addr)(f:Str):Prop:=W.findIn K (.ref C) f=some none
def d6.GG {f:Str}(n:d6 K C f):W.takerIn K C f=some none:=by
 unfold W.takerIn;rw[show W.findIn K (.ref C) f=some none from n]
 rfl
structure Meth (K:W.Frag) (C:Addr) (m:Str) (f:Addr):Prop where
 at_:W.findIn K (.ref C) m=some (some (.ref f))
 fn:W.isFn K (.ref f)=true
 kp:W.keepIn K (.ref f)=true
section
variable {X:Cx}{Y:KG}{U:St}{H:Hp}{s:Shared}{a C dx:Addr}{fs:List (Str×V)}{f:Str}{v:V}{A:Around}{E:KD}
def qh {b:Bool}(I:Inv X Y U H s)(e:H a=some (.ins C dx fs))(c:zT X.K C)(n:d6 X.K C f)(l:fs.lookup f=some v)
  (h:∀ u s',Inv X Y U H s'->RelV v u->Q u s'):wpAny (model X.prog X.w) A (getAttr (.ref a) f b) Q E s:=by
 obtain⟨mA,O,r,_,_,_⟩:=gr I.hok e;obtain⟨u,hu,ru⟩:=cP.some_of (v:=v) (o:=mA f) (by rw[<-l];exact r f);exact get_map I.bO O (c.get f) c.hd n hu (lM ru) (h u _ (I.tok _) ru)
def qJ {m:Str}{g:Addr}{Q:Value×List Value->Shared->Prop}(I:Inv X Y U H s)(e:H a=some (.ins C dx fs))(c:zT X.K C)(k:Meth X.K C m g)(l:fs.lookup m=none)
  (h:Q (.ref g,[.ref a]) s):wpAny (model X.prog X.w) A (getMethod (.ref a) m pl) Q E s:=by
 obtain⟨mA,O,r,_,_,_⟩:=gr I.hok e;have hn:mA m=none:=cP.none_of (by rw[<-l];exact r m);exact vg I.bO O (c.get m) k.at_ k.fn hn h
def qZ {y:V}{Q:KC}(I:Inv X Y U H s)(e:H a=some (.ins C dx fs))(c:zT X.K C)(n:d6 X.K C f)(hl:fs.length<1000)(ry:RelV y u)
  (h:∀ s',Inv X Y U (upd H a (.ins C dx (cA f y fs))) s'->Q () s'):wpAny (model X.prog X.w) A (setAttr (.ref a) f u) Q E s:=by
 obtain⟨mA,O,r,wi,_,ho⟩:=gr I.hok e;have hz:(fs.map (·.1)).length<=bn:=by rw[ce,sizeLine_eq];omega
 refine AM I.bO O c.sa c.po n.GG c.hd wi hz λh' O' sb=>h _ ?_
 have hd:∃ o,h'.get? dx=some o:=let⟨o,_,_,e',_⟩:=O'.ns;⟨o,e'⟩;refine I.write (x:=a) (e:=dx) (by rw[e];exact True.intro) (.inr ho) (λb q hb z=>(sb.2 b hb).trans z) hd ?_;refine⟨by rw[af O.ne];exact ho,?_,O.ne,O'.obj,_,O'.ns,λg=>?_,λg hg=>?_⟩
 .have:=d4 f y fs;omega
 .show cP ((cA f y fs).lookup g) (if g=f then some u else mA g);rw[dy]
  by_cases q:g=f
  .rw[if_pos q,if_pos q];exact ry
  .rw[if_neg q,if_neg q];exact r g
 .by_cases q:g=f
  .rw[q];exact(cN f y fs).1
  .refine(cN f y fs).2 g (wi g λz=>hg ?_);show(if g=f then some u else mA g)=none;rw[if_neg q];exact z
def Inv.made (I:Inv X Y U H s):Inv X Y U (upd (upd H s.heap.objs.size (.own (s.heap.objs.size+1))) (s.heap.objs.size+1) (.ins C s.heap.objs.size []))
  { s with heap:=(s.heap.push W.emptyDict).push (W.instObj C s.heap.objs.size) }:=by
 have e1:(s.heap.push W.emptyDict).get? s.heap.objs.size=some W.emptyDict:=tz s.heap rfl;have e2:((s.heap.push W.emptyDict).push (W.instObj C s.heap.objs.size)).get? (s.heap.objs.size+1)=some (W.instObj C s.heap.objs.size):=by
  have:=tz (s.heap.push W.emptyDict) (o:=W.instObj C s.heap.objs.size) rfl
  rwa [Heap.size_push]at this
 have e3:(s.heap.push W.emptyDict).Ns s.heap.objs.size (λ_=>none):=⟨W.emptyDict,#[],_,e1,rfl,(λe he=>absurd he (by simp)),λ_=>rfl⟩;have I1:=I.laid (a:=s.heap.objs.size) (o:=.own (s.heap.objs.size+1)) (h':=s.heap.push W.emptyDict) (t':=s.toks) (λb u q=>sw _ q) (pc _) ⟨_,e1⟩;refine I1.laid (a:=s.heap.objs.size+1) (o:=.ins C s.heap.objs.size []) (t':=s.toks) (λb u q=>sw _ q) (Nat.le_of_eq (Heap.size_push _ _)) ?_;have ne:s.heap.objs.size≠s.heap.objs.size+1:=ol (Nat.lt_succ_self _);refine⟨by rw[af ne,av],Nat.zero_le _,ne,e2,λ_=>none,(Heap.Ns1.of_empty e3).at λo q=>sw _ q,λ_=>True.intro,λy hy=>absurd rfl hy⟩
def Ac {prog:Program}{env:Env}(hb:attributeBase e f env (eval e env)=eval e env)
  (h:wpAny (model prog w) A (eval e env) (λo s₁=>wpAny (model prog w) A (getAttr o f true) Q E s₁) E s):wpAny (model prog w) A (eval (.Attribute e f pos) env) Q E s:=
 Attribute_any_ h (by rw[arm_eval_Attribute,hb])
end
section
variable {X:Cx}{o e value:Expr}{f:Str}{pos pos' tpos:Pos}{ta tv:TE}
end
section
variable {X:Cx}{Y:KG}{U:St}{H:Hp}{s:Shared}{A:Around}{E:KD}{Q:KD}{c:Value}{b:Bool}
inductive gT (K:W.Frag) (H:Hp):V->Value->Prop where
 |non:gT K H .non (.type "NoneType")
 |bl (x:Bool):gT K H (.bl x) (.type "bool")
 |int (i:Int):gT K H (.int i) (.type "int")
 |str (x:Str):gT K H (.str x) (.type "str")
 |flt (x:UInt64):gT K H (.flt x) (.type "float")
 |lst {a:Addr}{xs:List V}(e:H a=some (.lst xs)):gT K H (.ref a) (.type "list")
 |iY {a:Addr}{o:Obj}{xs:List V}(e:H a=some (.iY o (.lst xs))):gT K H (.ref a) (.type "list")
 |tup {a:Addr}{xs:List V}(e:H a=some (.tup xs)):gT K H (.ref a) (.type "tuple")
 |dK {a:Addr}{kvs:List (Key×V)}(e:Rd H a (.dK kvs)):gT K H (.ref a) (.type "dict")
 |dT {a:Addr}{kvs:List (List Key×V)}(e:H a=some (.dT kvs)):gT K H (.ref a) (.type "dict")
 |ins {a C dx:Addr}{fs:List (Str×V)}(e:H a=some (.ins C dx fs)) (cl:zT K C) (ha:W.findIn K (.ref C) "__class__"=some (some (.builtin "object.__class__")))
   (hn:W.specialIn K (.builtin "object.__class__") "__get__"=some (some (.builtin "getset_descriptor.__get__"))) (htk:W.takesIn K (.builtin "object.__class__")=some true)
   (hm:W.mroIn K C (.type "object")=some true):gT K H (.ref a) (.ref C)
def gL {x:V}{t:Value}(I:Inv X Y U H s)(rx:RelV x u)(ty:gT X.K H x t)(e:W.kitOne X.K t c=some b)(h:∀ tk,Q (.bool b) { s with toks:=tk }):
  wpAny (model X.prog X.w) A (call (.builtin "isinstance") [u,c]) Q E s:=by
 cases ty with
 |non=>cases(show u=Value.none from rx);exact W.kia_one W.kitx_none I.bO True.intro e (λz=>nomatch z) h
 |bl y=>cases(show u=Value.bool y from rx);exact W.kia_one W.kitx_bool I.bO True.intro e (λz=>nomatch z) h
 |int i=>obtain⟨t,q⟩:=(show ∃ t,u=Value.int i t from rx);cases q;exact W.kia_one W.kitx_int I.bO True.intro e (λz=>nomatch z) h
 |str y=>obtain⟨t,q⟩:=(show ∃ t,u=Value.str y t from rx);cases q;exact W.kia_one W.kitx_str I.bO True.intro e (λz=>nomatch z) h
 |flt y=>obtain⟨t,q⟩:=(show ∃ t,u=Value.float y t from rx);cases q;exact W.kia_one W.kitx_float I.bO True.intro e (λz=>nomatch z) h
 | @lst a xs ea=>
  cases(show u=Value.ref a from rx);obtain⟨_,_,n,_,h1⟩:=(show aC X.prog X.w H s.heap a (.lst xs) from I.hok a _ ea);exact W.kia_one W.kitx_list I.bO ⟨_,h1,rfl⟩ e (λz=>nomatch z) h
 | @iY a ob xs ea=>
  cases(show u=Value.ref a from rx);obtain⟨_,_,_,n,_,h1⟩:=(show aC X.prog X.w H s.heap a (.iY ob (.lst xs)) from I.hok a _ ea);exact W.kia_one W.kitx_list I.bO ⟨_,h1,rfl⟩ e (λz=>nomatch z) h
 | @tup a xs ea=>
  cases(show u=Value.ref a from rx);obtain⟨_,_,_,p⟩:=(show aC X.prog X.w H s.heap a (.tup xs) from I.hok a _ ea);obtain⟨o,h1,h2,_⟩:=p;exact W.kia_one W.kitx_tuple I.bO ⟨o,h1,h2⟩ e (λz=>nomatch z) h
 | @dK a kvs ea=>
  cases(show u=Value.ref a from rx);obtain⟨_,_,vs,_,p⟩:=(show aC X.prog X.w H s.heap a (.dK kvs) from ea.ok I.hok);obtain⟨o,es,ep,h1,h2,_⟩:=p;exact W.kia_one W.kitx_dict I.bO ⟨o,h1,h2.1⟩ e (λz=>nomatch z) h
 | @dT a kvs ea=>
  cases(show u=Value.ref a from rx);obtain⟨_,_,xs,_,o,es,ep,h1,h2,_⟩:=(show aC X.prog X.w H s.heap a (.dT kvs) from I.hok a _ ea);exact W.kia_one W.kitx_dict I.bO ⟨o,h1,h2.1⟩ e (λz=>nomatch z) h
 | @ins a C dx fs ea cl ha hn htk hm=>
  cases(show u=Value.ref a from rx);obtain⟨mA,O,_⟩:=gr I.hok ea;obtain⟨od,J,_⟩:=O.look;exact W.kia_one (W.kitx_own (cl.get _) cl.hd ha hn htk hm) I.bO J e (λz=>nomatch z) h
end
structure bI (k:Nat) (A:Around):Prop where
 hd:A.handled=none
 dp:A.depth+3*k+5<recursionLimit
 un:A.units+16*k+200<cLine
def bI.mono {j:Nat}(r:bI k A)(h:j<=k):bI j A:=⟨r.hd,by have:=r.dp;omega,by have:=r.un;omega⟩
def bI.deeper (r:bI (k+1) A)(env:Env):bI k (A.deeper env):=
 ⟨r.hd,by have:=r.dp;show A.depth+1+3*k+5<_;omega,by have:=r.un;show A.units+3+16*k+200<_;omega⟩
def qS:(A.under (.builtin "type.__call__" ⟨.ref C::us,kw⟩)).depth=A.depth+1:=by
 first|rfl|simp[Around.under,Code.weight,Code.isCreation,Code.isGuard,Code.isCaller,Code.frames,Code.isFrame,guardIds]
def qc:(A.under (.builtin "type.__call__" ⟨.ref C::us,kw⟩)).units=A.units+1:=by
 first|rfl|simp[Around.under,Code.cUnits,Code.frames,Code.isFrame]
def bI.make (r:bI (k+1) A)(C:Addr)(us:List Value)(kw:List (Str×Value)):bI k (A.under (.builtin "type.__call__" ⟨.ref C::us,kw⟩)):=
 ⟨r.hd,by have:=r.dp;rw[qS];omega,by have:=r.un;rw[qc];omega⟩
def bI.depth (r:bI k A):A.depth<recursionLimit:=by have:=r.dp;omega
abbrev Bq:TA:=λ_ H Q=>Q [] H
abbrev BB (ta:TE)(tr:TA):TA:=λU H Q=>ta U H λx H1=>tr U H1 λxs H2=>Q (x::xs) H2
section
variable {X:Cx}{e:Expr}{es:List Expr}{te:TE}{t:TA}{pos:Pos}
def fg:PA X [] Bq:=λ_ _ _ _ H Q I h=>Calls.spliced_nil ⟨[],H,I,.nil,h⟩
def AV (ha:PE X e te)(hr:PA X es t)(hs:bm (e::es) X.env=(false,eval e X.env)::bm es X.env:=by rfl):PA X (e::es) (BB te t):=by
 intro pos Y s U H Q I h;rw[hs];show wpAny _ _ (spliced ((false,eval e X.env)::backTo pos (bm es X.env))) _ _ s;refine Calls.spliced_cons (aw (ha Y s U H _ I h) λu s1 ⟨x,H1,I1,r1,q1⟩=>?_);exact aw (hr pos Y s1 U H1 _ I1 q1) λus s2 ⟨xs,H2,I2,r2,q2⟩=>⟨x::xs,H2,I2,.cons r1 r2,q2⟩
abbrev IY (t:TA):TE:=λU H Q=>t U H λxs H1=>xs.length<=bn/\∀ p,H1 p=none->Q (.ref p) (upd H1 p (.tup xs))
abbrev Ir (t:TA):TE:=λU H Q=>t U H λxs H1=>xs.length<=bn/\∀ p,H1 p=none->Q (.ref p) (upd H1 p (.lst xs))
def CT {x1} (h:PA X es t):PE X (.Tuple es x1 pos) (IY t):=by
 intro Y s U H Q I hq;refine wpAny_Tuple_spliced (aw (h pos Y s U H _ I hq) λus s1 ⟨xs,H1,I1,r,z,q⟩=>⟨by rw[<-r.length];exact z,?_⟩);have hf:H1 s1.heap.objs.size=none:=I1.hok.fresh (pc _);refine⟨.ref s1.heap.objs.size,upd H1 s1.heap.objs.size (.tup xs),I1.laid (t':=s1.toks) (λb u e=>sw _ e) (pc _) ?_,rfl,q _ hf⟩;exact⟨z,us,r,⟨_,tz _ rfl,rfl,_,rfl⟩⟩
def D8 (h:PA X es t):PE X (.List es pos) (Ir t):=by
 intro Y s U H Q I hq;refine wpAny_List_spliced (aw (h pos Y s U H _ I hq) λus s1 ⟨xs,H1,I1,r,z,q⟩=>⟨by rw[<-r.length];exact z,?_⟩);have hf:H1 s1.heap.objs.size=none:=I1.hok.fresh (pc _);refine⟨.ref s1.heap.objs.size,upd H1 s1.heap.objs.size (.lst xs),I1.laid (t':=s1.toks) (λb u e=>sw _ e) (pc _) ?_,rfl,q _ hf⟩;exact⟨z,us,0,r,tz _ rfl⟩
end
@[reducible]def Sp:=List V->Hp->VK->XK->Prop
@[reducible]def rK:=List Env->Hp->Shared->XK->Value->Shared->Prop
structure rC (P:Program) (w:World) (K:W.Frag) (mg:KH) (base:Heap) (A:Around) (outer:List Env) (s:Shared) (H:Hp):Prop where
 frames:A.frames=some outer
 mod:Mod K mg base
 bs:∀ b o,base.get? b=some o->s.heap.get? b=some o/\H b=none
 bsz:base.objs.size<=s.heap.objs.size
 i9:s.heap.FunFrames base outer
 frf:∀ b ∈ mM outer,H b=none
 hok:fu P w H s.heap
 bare:AllBare s.gens
abbrev CE (outer:List Env)(P:Program)(w:World)(H:Hp)(s:Shared)(Q:VK)(u:Value)(s':Shared):Prop:=
 ∃ v H',s'.os=s.os/\AllBare s'.gens/\Un (mM outer) [] H H' s.heap s'.heap/\fu P w H' s'.heap/\RelV v u/\Q v H'
abbrev CR (CX:rK)(outer:List Env)(P:Program)(w:World)(H:Hp)(s:Shared)(Q:VK)(E:XK)(r:Result)(s':Shared):Prop:=
 match r with
 | .ok (.ret u)=>CE outer P w H s Q u s'
 | .ok _=>False
 | .error e=>CX outer H s E e s'
structure cM (P:Program) (w:World) (K:W.Frag) (mg:KH) (base:Heap) (CX:rK) (k:Nat) (f:Addr) (fd:FuncData) (ps:List Str) (sp:Sp):Prop where
 len:∀ vs H Q E,sp vs H Q E->vs.length=ps.length
 run:∀ (A:Around) (outer:List Env) (s:Shared) (H:Hp) (args:Args) (us:List Value) (vs:List V) (Q:VK) (E:XK),bI k A->rC P w K mg base A outer s H->BindsTo s fd args (ps.zip us)->Vals vs us->sp vs H Q E->
  codeAny (model P w) A (.call (.ref f) args) (CR CX outer P w H s Q E) s
variable {mg:KH}{base:Heap}{CX:rK}{fd:FuncData}{ps:List Str}
def cM.imp {f:Addr}{sp sp':Sp}(F:cM P w K mg base CX k f fd ps sp)
  (h:∀ vs H Q E,sp' vs H Q E->sp vs H Q E):cM P w K mg base CX k f fd ps sp':=
 ⟨λvs H Q E q=>F.len vs H Q E (h _ _ _ _ q),λA outer s H args us vs Q E hr he hb hv hs=>F.run A outer s H args us vs Q E hr he hb hv (h _ _ _ _ hs)⟩
variable {outer:List Env}
def rC.make (e:rC P w K mg base A outer s H)(C:Addr)(us:List Value)(kw:List (Str×Value)):
  rC P w K mg base (A.under (.builtin "type.__call__" ⟨.ref C::us,kw⟩)) outer s H:=⟨by first|exact e.frames|(simpa[Around.under,Code.envs,Code.isFrame,pushEnvs] using e.frames),e.mod,e.bs,e.bsz,e.i9,e.frf,e.hok,e.bare⟩
section
variable {X:Cx}{Y:KG}{U:St}{H:Hp}{s s':Shared}
def Inv.gW (I:Inv X Y U H s):rC X.prog X.w X.K X.mg X.base X.A X.stack s H:=
 ⟨I.ok.frames,I.ok.mod,I.bs,Nat.le_trans I.ok.bsz I.sz,I.stack,I.mU,I.hok,I.bare⟩
def Inv.after {Q:VK}(I:Inv X Y U H s)(h:CE X.stack X.prog X.w H s Q u s'):EP X Y U Q u s':=by
 obtain⟨v,H',os,bare,un,hok,r,q⟩:=h;obtain⟨hh,g,d,t,os'⟩:=s';obtain rfl:os'=s.os:=os;exact⟨v,H',I.call (h':=hh) (g':=g) (d':=d) (t':=t) (ch:=[]) un hok bare (λb z=>absurd z (by simp)),r,q⟩
end
abbrev Cg (sp:Sp)(dvs:List V)(E:St->XK)(t:TA):TE:=λU H Q=>t U H λvs H1=>sp (vs++dvs) H1 Q (E U)
abbrev Ce (C:Addr)(sp:Sp)(dvs:List V)(E:St->XK)(t:TA):TE:=λU H Q=>t U H λvs H1=>∀ x dx,H1 x=none->H1 dx=none->dx≠x->
 sp (.ref x::(vs++dvs)) (upd (upd H1 dx (.own x)) x (.ins C dx [])) (λv H2=>v=.non/\Q (.ref x) H2) (E U)
abbrev Binds (K:W.Frag)(fd:FuncData)(ps:List Str)(ds:List Value):Prop:=
 ∀ (s:Shared) (us:List Value),K.In s.heap->(us++ds).length=ps.length->BindsTo s fd ⟨us,[]⟩ (ps.zip (us++ds))
def Binds.all (h:∀ us:List Value,us.length=ps.length->bindArgs fd ⟨us,[]⟩=pure (ps.zip us)):Binds K fd ps []:=λs us _ hl=>by
 rw[append_nil]at hl⊢;exact .of_eq (h us hl)
abbrev Passes (CX:rK)(X:Cx)(E:St->XK):Prop:=∀ (Y:KG) (U:St) (H:Hp) (s:Shared) (e:Value) (s':Shared),Inv X Y U H s->CX X.stack H s (E U) e s'->X.xe e s'
variable {vs:List V}
section
variable {X:Cx}{CX:rK}{k:Nat}{f C:Addr}{fd:FuncData}{ps:List Str}{sp:Sp}{dvs:List V}{ds:List Value}{E:St->XK}{x m:Str}{p pos apos:Pos}{e o:Expr}{es:List Expr}{ta:TE}{t:TA}
def l8 {Q:VK}(F:cM X.prog X.w X.K X.mg X.base CX k f fd ps sp)(hr:bI k X.A)(hb:Binds X.K fd ps ds)(hd:Vals dvs ds)(hx:Passes CX X E)
  (I:Inv X Y U H s) (r:Vals vs us) (h:sp (vs++dvs) H Q (E U)):wpAny (model X.prog X.w) X.A (call (.ref f) us) (EP X Y U Q) X.xe s:=by
 have r2:Vals (vs++dvs) (us++ds):=r.append hd;have hl:(us++ds).length=ps.length:=by rw[<-r2.length];exact F.len _ _ _ _ h
 refine wpAny_call (codeAny_mono (F.run X.A X.stack s H ⟨us,[]⟩ (us++ds) (vs++dvs) Q (E U) hr I.gW (hb s us I.bO hl) r2 h) λr s' hq=>?_);cases r with
 |error e=>exact hx Y U H s e s' I hq
 |ok fl=>
  cases fl with
  |ret u=>exact I.after hq
  |next=>exact False.elim hq
  |brk=>exact False.elim hq
  |cont=>exact False.elim hq
def Al (F:cM X.prog X.w X.K X.mg X.base CX k f fd ps sp)(hr:bI k X.A)(hg:Gl X x)(hm:X.mg x=some (.ref f))(hk:W.keepIn X.K (.ref f)=true)(hb:Binds X.K fd ps ds)(hd:Vals dvs ds)(hx:Passes CX X E)
  (ha:PA X (e::es) t) (hdb:(x ==("__debug__":Str))=false:=by decide) (he:bm (e::es) X.env=(false,eval e X.env)::bm es X.env:=by rfl) (hpl:(backTo pos (bm es X.env)).any (·.1)=false:=by rfl):
  PE X (.Call (.Name x p) (e::es) [] pos) (Cg sp dvs E t):=by
 intro Y s U H Q I h;refine bv (bw I hg hm ?_ hdb);refine W.callWith_K (h₀:=X.base) I.ok.mod.kin hk (aw (ha pos Y s U H _ I h) λus s1 ⟨vs,H1,I1,r,q⟩=>⟨I1.bO,?_⟩) he hpl;exact l8 F hr hb hd hx I1 r q
def wk (F:cM X.prog X.w X.K X.mg X.base CX k f fd ps sp)(hr:bI k X.A)(hg:Gl X x)(hm:X.mg x=some (.ref f))(hk:W.keepIn X.K (.ref f)=true)(hb:Binds X.K fd ps ds)(hd:Vals dvs ds)(hx:Passes CX X E)
  (hdb:(x ==("__debug__":Str))=false:=by decide):PE X (.Call (.Name x p) [] [] pos) (Cg sp dvs E Bq):=by
 intro Y s U H Q I h;refine bv (bw I hg hm ?_ hdb);exact W.callWith_K0 I.bO hk (l8 (us:=[]) F hr hb hd hx I .nil h)
structure Mk (K:W.Frag) (C f:Addr):Prop where
 makes:W.makesIn K C=true
 init:W.findIn K (.ref C) "__init__"=some (some (.ref f))
 fn:W.isFn K (.ref f)=true
 kp:W.keepIn K (.ref C)=true
def oM {Q:VK}(M:Mk X.K C f)(F:cM X.prog X.w X.K X.mg X.base CX k f fd ps sp)(hr:bI (k+1) X.A)(hb:Binds X.K fd ps ds)(hd:Vals dvs ds)
  (hx:Passes CX X E) (I:Inv X Y U H s) (r:Vals vs us)
  (h:∀ x dx,H x=none->H dx=none->dx≠x->sp (.ref x::(vs++dvs)) (upd (upd H dx (.own x)) x (.ins C dx [])) (λv H2=>v=.non/\Q (.ref x) H2) (E U)):
  wpAny (model X.prog X.w) X.A (call (.ref C) us) (EP X Y U Q) X.xe s:=by
 have hq:=h (s.heap.objs.size+1) s.heap.objs.size (I.hok.fresh (Nat.le_succ _)) (I.hok.fresh (pc _)) (ol (Nat.lt_succ_self _));have I2:=Inv.made (C:=C) I;have r2:Vals (V.ref (s.heap.objs.size+1)::(vs++dvs)) (Value.ref (s.heap.objs.size+1)::(us++ds)):=.cons rfl (r.append hd);have hl:(Value.ref (s.heap.objs.size+1)::us++ds).length=ps.length:=by
  have e:=r2.length;rw[F.len _ _ _ _ hq]at e;exact e.symm
 refine wpAny_call (xE (f:=f) I.bO M.makes M.init (beq_iff_eq.mp M.fn) (codeAny_mono (F.run _ X.stack _ _ ⟨Value.ref (s.heap.objs.size+1)::us,[]⟩ (Value.ref (s.heap.objs.size+1)::(us++ds)) _ _ (E U) (hr.make C us [])
  (I2.gW.make C us []) (hb _ (Value.ref (s.heap.objs.size+1)::us) I2.bO hl) r2 hq) λr s' hq'=>?_))
 cases r with
 |error e=>exact hx Y U _ _ e s' I2 hq'
 |ok fl=>
  cases fl with
  |ret u=>
   obtain⟨v,H',I3,rv,ev,q3⟩:=I2.after hq';subst ev;exact⟨rv,⟨V.ref (s.heap.objs.size+1),H',I3,rfl,q3⟩⟩
  |next=>exact False.elim hq'
  |brk=>exact False.elim hq'
  |cont=>exact False.elim hq'
def yO (M:Mk X.K C f)(F:cM X.prog X.w X.K X.mg X.base CX k f fd ps sp)(hr:bI (k+1) X.A)(hg:Gl X x)(hm:X.mg x=some (.ref C))(hb:Binds X.K fd ps ds)(hd:Vals dvs ds)(hx:Passes CX X E)
  (ha:PA X (e::es) t) (hdb:(x ==("__debug__":Str))=false:=by decide) (he:bm (e::es) X.env=(false,eval e X.env)::bm es X.env:=by rfl) (hpl:(backTo pos (bm es X.env)).any (·.1)=false:=by rfl):
  PE X (.Call (.Name x p) (e::es) [] pos) (Ce C sp dvs E t):=by
 intro Y s U H Q I h;refine bv (bw I hg hm ?_ hdb);refine W.callWith_K (h₀:=X.base) I.ok.mod.kin M.kp (aw (ha pos Y s U H _ I h) λus s1 ⟨vs,H1,I1,r,q⟩=>⟨I1.bO,?_⟩) he hpl;exact oM M F hr hb hd hx I1 r q
def yc (M:Mk X.K C f)(F:cM X.prog X.w X.K X.mg X.base CX k f fd ps sp)(hr:bI (k+1) X.A)(hg:Gl X x)(hm:X.mg x=some (.ref C))(hb:Binds X.K fd ps ds)(hd:Vals dvs ds)(hx:Passes CX X E)
  (hdb:(x ==("__debug__":Str))=false:=by decide):PE X (.Call (.Name x p) [] [] pos) (Ce C sp dvs E Bq):=by
 intro Y s U H Q I h;refine bv (bw I hg hm ?_ hdb);exact W.callWith_K0 I.bO M.kp (oM (us:=[]) M F hr hb hd hx I .nil h)
end
section
variable {X:Cx}{CX:rK}{k:Nat}{f C:Addr}{fd:FuncData}{ps ks:List Str}{sp:Sp}{E:St->XK}{x m:Str}{p pos apos kpos:Pos}{e o:Expr}{es:List Expr}{kws:List Keyword}{te ta:TE}{t tk:TA}{nm:Option Str}
variable {g:List Value->List Value->List Value}{gV:List V->List V->List V}
end
structure jk (N P:List Str) (sc:Scope):Prop where
 kind:sc.kind=.function
 co:sc.isCoroutine=false
 gen:sc.isGenerator=false
 nd:N.Nodup
 pre:N.take P.length=P
 par:∀ x ∈ P,sc.names.lookup x=some .local\/sc.names.lookup x=some .cell
 nofree:∀ y ∈ sc.names,y.2≠.free
def lE {kindOf:Str->Option NameKind}{x:Str}:∀ {binds:List (Str×Value)}{m:KH},(∀ v,(x,v) ∉ binds)->bindL kindOf binds m x=m x
 | [],_,_=>rfl
 |(n,v)::r,m,h=>by
  unfold bindL;rw[lE λw hw=>h w (dl _ hw)]
  split
  .have:x≠n:=by rintro rfl;exact h v lf
   simp[this]
  .rfl
def lr {kindOf:Str->Option NameKind}{x:Str}:∀ {binds:List (Str×Value)}{m:KH},(∀ v,(x,v) ∉ binds)->bindC kindOf binds m x=m x
 | [],_,_=>rfl
 |(n,v)::r,m,h=>by
  unfold bindC;rw[lr λw hw=>h w (dl _ hw)]
  split
  .rfl
  .have:x≠n:=by rintro rfl;exact h v lf
   simp[this]
def lJ {kindOf:Str->Option NameKind}{x:Str}{v:Value}:∀ {P:List Str}{vs:List Value}{i:Nat}{m:KH},P.Nodup->P[i]? =some x->vs[i]? =some v->kindOf x=some .local->
  bindL kindOf (P.zip vs) m x=some v
 | [],_,_,_,_,h,_,_=>by simp at h
 |_::_,[],_,_,_,_,h,_=>by simp at h
 |p::P,w::vs,0,m,nd,h1,h2,hk=>by
  simp at h1 h2;subst h1;subst h2;show bindL kindOf ((p,w)::P.zip vs) m p=_;unfold bindL;rw[lE λv hv=>(nodup_cons.mp nd).1 (of_mem_zip hv).1,if_pos hk];simp
 |p::P,w::vs,i+1,m,nd,h1,h2,hk=>by
  show bindL kindOf ((p,w)::P.zip vs) m x=_;unfold bindL;exact lJ (i:=i) (nodup_cons.mp nd).2 (by simpa using h1) (by simpa using h2) hk
def k7 {kindOf:Str->Option NameKind}{x:Str}{v:Value}:∀ {P:List Str}{vs:List Value}{i:Nat}{m:KH},P.Nodup->P[i]? =some x->vs[i]? =some v->kindOf x≠some .local->
  bindC kindOf (P.zip vs) m x=some v
 | [],_,_,_,_,h,_,_=>by simp at h
 |_::_,[],_,_,_,_,h,_=>by simp at h
 |p::P,w::vs,0,m,nd,h1,h2,hk=>by
  simp at h1 h2;subst h1;subst h2;show bindC kindOf ((p,w)::P.zip vs) m p=_;unfold bindC;rw[lr λv hv=>(nodup_cons.mp nd).1 (of_mem_zip hv).1,if_neg hk];simp
 |p::P,w::vs,i+1,m,nd,h1,h2,hk=>by
  show bindC kindOf ((p,w)::P.zip vs) m x=_;unfold bindC;exact k7 (i:=i) (nodup_cons.mp nd).2 (by simpa using h1) (by simpa using h2) hk
abbrev start (N:List Str)(vs:List V):St:=vs.map some++re (N.length-vs.length) none
abbrev uA (CX:rK)(P:Program)(w:World)(K:W.Frag)(mg:KH)(base:Heap)(N:List Str)(qual:Str)(scope:Scope)(f:Addr)(cd:Value)(A:Around)(outer:List Env)(s:Shared)(H:Hp)(E:XK):Cx where
 prog:=P
 w:=w
 K:=K
 mg:=mg
 base:=base
 A:=A.deeper (envOfC qual scope s.heap.objs.size f cd)
 N:=N
 s₀:=s
 H₀:=H
 env:=envOfC qual scope s.heap.objs.size f cd
 outer:=outer
 stack:=envOfC qual scope s.heap.objs.size f cd::outer
 ex:=[]
 calm:=true
 fn:=λ_=>true
 pn:=[]
 xe:=λe s'=>wpAny (model P w) (A.deeper (envOfC qual scope s.heap.objs.size f cd)) (leaving (envOfC qual scope s.heap.objs.size f cd) e) (λ_ s''=>CX outer H s E e s'') (λe' s''=>CX outer H s E e' s'') s'
def pf {sc:Scope}{n:Nat}(h:sc.names.lookup x=some .cell):∃ c,(cellsFrom n sc.names []).lookup x=some c:=by
 have q:=W.cellsFrom_some sc.names n [] (.inl h);exact Option.isSome_iff_exists.mp q
variable {scope:Scope}
def u6 {N:List Str}{qual:Str}{f:Addr}{cd:Value}{s1:Shared}{E:XK}
  (S:jk N ps scope) (hd:A.handled=none) (e0:rC P w K mg base A outer s H) (hl:vs.length=ps.length) (r:Vals vs us)
  (x:InCallC s s.heap.objs.size (bindL (envOfC qual scope s.heap.objs.size f cd).kindOf (ps.zip us) λ_=>none) (cellsFrom (s.heap.objs.size+1) scope.names []) (bindC (envOfC qual scope s.heap.objs.size f cd).kindOf (ps.zip us) λ_=>none) s1):
  Inv (uA CX P w K mg base N qual scope f cd A outer s H E) [] (start N vs) H s1:=by
 have hpl:ps.length<=N.length:=by have:=congrArg List.length S.pre;rw[db]at this;omega
 obtain⟨h1,tk,rfl,hk⟩:=x.done;have noA:∀ b:Addr,b ∉ (uA CX P w K mg base N qual scope f cd A outer s H E).ex:=λb z=>absurd (show b ∈ ([]:List Addr) from z) (by simp)
 refine⟨⟨e0.mod,S.kind,rfl,rfl,pc _,λy z c h1 h2=>?_,λy hy=>?_,λy c _ h=>?_,λ_=>hd,Around.frames_deeper e0.frames,.inr ⟨rfl,rfl⟩,λb z=>absurd z (noA b),e0.bs,e0.bsz,λb _ _=>noA b,λb z=>absurd z (noA b),e0.i9,e0.frf⟩,
  rfl,e0.bare,Un.kept hk,⟨_,x.toInCall.ns,λi y v h1 h2 h3=>?_⟩,λy c h=>⟨_,x.cell y c h⟩,e0.hok.fresh (pc _),λy c h=>?_,λp hp=>absurd (show p ∈ ([]:KG) from hp) (by simp),e0.hok.kept hk,?_⟩
 .exact name_of_addr x.apart (PySem.mem_of_lookup h1) (PySem.mem_of_lookup h2)
 .have hy:scope.names.lookup y=some .cell\/scope.names.lookup y=some .free:=hy;rcases hy with hy|hy
  .exact pf hy
  .exact absurd rfl (S.nofree _ (PySem.mem_of_lookup hy))
 .exact Nat.le_of_lt (x.above y c (PySem.mem_of_lookup h))
 .have hi:i<vs.length:=by
   unfold start at h2
   by_cases hi:i<vs.length
   .exact hi
   .rw[List.getElem?_append_right (by simpa using hi)]at h2;rw[List.getElem?_replicate]at h2
    split at h2<;>cases h2
  have ha:vs[i]? =some v:=by
   unfold start at h2;rw[List.getElem?_append_left (by simpa using hi),im]at h2;cases e:vs[i]? with
   |none=>rw[e]at h2;cases h2
   |some a=>rw[e]at h2;cases h2;rfl
  obtain⟨u,hu,rv⟩:=r.get ha;have hp:ps[i]? =some y:=by
   rw[<-S.pre,List.getElem?_take_of_lt nofun];exact h1
  have ndP:ps.Nodup:=by rw[<-S.pre];exact S.nd.sublist (take_sublist _ _)
  refine⟨u,rv,?_⟩;rcases S.par y (cr hp) with k|k
  .exact .inl ⟨k,lJ ndP hp hu k⟩
  .obtain⟨c,e⟩:=pf (n:=s.heap.objs.size+1) k;refine .inr ⟨.inl k,c,e,?_⟩;have q:=x.cell y c e;rw[k7 ndP hp hu (by show scope.names.lookup y≠_;rw[k];decide)]at q;exact q
 .exact e0.hok.fresh (Nat.le_of_lt (x.above y c (PySem.mem_of_lookup h)))
 .unfold start;show _=N.length;rw[ci,ce,length_replicate]
  omega
def Fu {f:Addr}{name qual:Str}{params:Arguments}{dV kV doc pm cdv ct oc:Value}{an od:Option Addr}
  {osl:Array (Option Value)}{N:List Str}{sp:Sp}(lk:K.lookup f=some ⟨oc,od,.func (W.fnOf name qual params body scope dV kV doc pm an cdv ct),osl⟩) (hcd:W.codeIn K cdv qual=true) (S:jk N ps scope)
  (len:∀ vs H Q E,sp vs H Q E->vs.length=ps.length)
  (hbody:∀ (A:Around) (outer:List Env) (s:Shared) (H:Hp) (vs:List V) (Q:VK) (E:XK),bI k (A.deeper (envOfC qual scope s.heap.objs.size f cdv))->sp vs H Q E->
   ∃ t,AQ (uA CX P w K mg base N qual scope f cdv A outer s H E) body t/\t { nx:=λ_ H'=>Q .non H',rt:=Q } (start N vs) H):
  cM P w K mg base CX (k+1) f (W.fnOf name qual params body scope dV kV doc pm an cdv ct) ps sp:=by
 refine⟨len,λA outer s H args us vs Q E hr e0 hb r hsp=>?_⟩;have hl:=len _ _ _ _ hsp;have KX:K.In s.heap:=e0.mod.kin.keeps λb o e=>(e0.bs b o e).1
 have lim:s.heap.NoLimit:=e0.mod.nolimit.keeps λb o e=>(e0.bs b o e).1
 have hkind:∀ y ∈ ps.zip us,scope.names.lookup y.1=some .local\/(scope.names.lookup y.1=some .cell/\((cellsFrom (s.heap.objs.size+1) scope.names []).lookup y.1).isSome=true):=λ⟨n,v⟩ hy=>by
  rcases S.par n (of_mem_zip hy).1 with q|q
  .exact .inl q
  .exact .inr ⟨q,W.cellsFrom_some _ _ _ (.inl q)⟩
 refine codeAny_call_function hr.depth (KX _ _ lk) rfl S.co S.gen rfl (W.codeRec_of KX hcd) (hb _ _ _ _ ?_);refine wpAny_newFunctionEnv_cells S.kind hkind λenv he s1 x=>?_
 subst he;refine⟨lim.keeps x.toInCall.keep,codeAny_func ?_⟩;obtain⟨t,ht,hq⟩:=hbody A outer s H vs Q E (hr.deeper _) hsp;have I:Inv (uA CX P w K mg base N qual scope f cdv A outer s H E) [] (start N vs) H s1:=u6 S hr.hd e0 hl r x;refine wpAny_mono (ht [] s1 (start N vs) H _ I hq) (λfl s' hs=>?_) λe s' hs=>hs
 have fin:∀ {σ':St}{H':Hp}{v:V}{u:Value},Inv (uA CX P w K mg base N qual scope f cdv A outer s H E) [] σ' H' s'->RelV v u->Q v H'->CE outer P w H s Q u s':=
  λ{σ' H' v u} J rv q=>⟨v,H',J.os,J.bare,J.base,J.hok,rv,q⟩
 cases fl with
 |ret u=>
  obtain⟨v,σ',H',J,rv,q⟩:=hs;exact fin J rv q
 |next=>
  obtain⟨σ',H',J,q⟩:=hs;exact fin (v:=V.non) (u:=Value.none) J rfl q
 |brk=>
  obtain⟨_,_,_,q⟩:=hs;exact False.elim q
 |cont=>
  obtain⟨_,_,_,q⟩:=hs;exact False.elim q
section
variable {X:Cx}{x:Str}{p pos:Pos}{e:Expr}{es:List Expr}{t:TA}{id T:String}{r:List V->Hp->VK->Prop}
abbrev JH (r:List V->Hp->VK->Prop)(t:TA):TE:=λU H Q=>t U H λvs H1=>r vs H1 Q
def pH (hc:cB X (.builtin id) r)(hg:Gl X x)(hm:X.mg x=none)(hv:bootBuiltins x=some (.builtin id))(ha:PA X (e::es) t)(hn:x≠"__name__":=by decide) (hdb:(x ==("__debug__":Str))=false:=by decide)
  (he:bm (e::es) X.env=(false,eval e X.env)::bm es X.env:=by rfl) (hpl:(backTo pos (bm es X.env)).any (·.1)=false:=by rfl):PE X (.Call (.Name x p) (e::es) [] pos) (JH r t):=by
 intro Y s U H Q I h;refine bv (cn I hg hm hv ?_ hn hdb);exact PyProof.Rows.callWith_builtin1 (aw (ha pos Y s U H _ I h) λus s1 ⟨vs,H1,I1,r1,q1⟩=>hc Y s1 U H1 vs us Q I1 r1 q1) he hpl
def uL (hc:cB X (.type T) r)(hg:Gl X x)(hm:X.mg x=none)(hv:bootBuiltins x=some (.type T))(ha:PA X (e::es) t)(hn:x≠"__name__":=by decide) (hdb:(x ==("__debug__":Str))=false:=by decide)
  (he:bm (e::es) X.env=(false,eval e X.env)::bm es X.env:=by rfl) (hpl:(backTo pos (bm es X.env)).any (·.1)=false:=by rfl):PE X (.Call (.Name x p) (e::es) [] pos) (JH r t):=by
 intro Y s U H Q I h;refine bv (cn I hg hm hv ?_ hn hdb);exact PyProof.Rows.callWith_type1 (aw (ha pos Y s U H _ I h) λus s1 ⟨vs,H1,I1,r1,q1⟩=>hc Y s1 U H1 vs us Q I1 r1 q1) he hpl
end
end L2
namespace HT
open PySem PyProof.Rows
section
open PySem.SeqAt
open PySem.AutoSeq1 (wpAny_loadPart')
open PySem.MeetsSeq PySem.MeetsSeq2 PySem.MeetsSeq3
end
section
variable {prog:Program}{w:World}{A:Around}{E:KD}{s:Shared}
abbrev oZ (n d:Nat):Option Int->Nat
 |none=>d
 |some v=>if v<0 then(v+(n:Int)).toNat else min v.toNat n
end
end HT
namespace L2
open PySem PySem.Spec PyProof.Rows
@[reducible]def TO:=St->Hp->(Option Int->Hp->Prop)->Prop
abbrev PO (X:Cx)(e:Option Expr)(t:TO):Prop:=
 ∀ (Y:KG) (s:Shared) (U:St) (H:Hp) (Q:Option Int->Hp->Prop),Inv X Y U H s->t U H Q->
  wpAny (model X.prog X.w) X.A (evalPart e X.env) (λu s'=>∃ o H',Inv X Y U H' s'/\IsPart u o/\Q o H') X.xe s
abbrev Ak:TO:=λ_ H Q=>Q none H
abbrev FU (t:TE):TO:=λU H Q=>t U H λx H1=>∃ i,x=.int i/\Q (some i) H1
section
variable {X:Cx}{e:Expr}{te:TE}{lo hi:Option Expr}{tl th:TO}{pos p2:Pos}
def Bo:PO X none Ak:=by
 intro Y s U H Q I h;rw[evalPart_none];exact am ⟨none,H,I,.none,h⟩
def Ax (h:PE X e te):PO X (some e) (FU te):=by
 intro Y s U H Q I hw;rw[evalPart_some];refine aw (h Y s U H _ I hw) λu s1 ⟨x,H1,I1,r1,q1⟩=>?_
 obtain⟨i,rfl,q⟩:=q1;obtain⟨t,rfl⟩:=r1;exact⟨some i,H1,I1,.int i t,q⟩
abbrev HE (X:Cx)(r:V->Option Int->Option Int->Hp->VK->Prop):Prop:=
 ∀ (Y:KG) (s:Shared) (U:St) (H:Hp) (x:V) (v vl vu:Value) (lo hi:Option Int) (sl:Addr) (Q:VK),Inv X Y U H s->RelV x v->s.heap.IsSliceOf sl vl vu .none->IsPart vl lo->IsPart vu hi->r x lo hi H Q->
  ∃ T id,typeLookup (.type T) "__getitem__"=pure (some (.builtin id))/\s.TypeIs v T/\wpAny (model X.prog X.w) X.A (getItem v (.ref sl)) (EP X Y U Q) X.xe s
abbrev JR (r:V->Option Int->Option Int->Hp->VK->Prop)(te:TE)(tl th:TO):TE:=λU H Q=>te U H λx H1=>tl U H1 λl H2=>th U H2 λu H3=>r x l u H3 Q
def xD {r:V->Option Int->Option Int->Hp->VK->Prop}(hr:HE X r)(he:PE X e te)(hl:PO X lo tl)(hu:PO X hi th):PE X (.Subscript e (.Slice lo hi none p2) pos) (JR r te tl th):=by
 intro Y s U H Q I h;refine Subscript_ (aw (he Y s U H _ I h) λv s1 ⟨x,H1,I1,r1,q1⟩=>?_);refine wpAny_Slice (aw (hl Y s1 U H1 _ I1 q1) λvl s2 ⟨l,H2,I2,pl,q2⟩=>aw (hu Y s2 U H2 _ I2 q2) λvu s3 ⟨u,H3,I3,pu,q3⟩=>?_);rw[evalPart_none];refine am ?_;have I4:Inv X Y U H3 { s3 with heap:=s3.heap.push { cls:=.type "slice",data:=.fields #[vl,vu,.none] } }:=I3.kept (t':=s3.toks) λb ob q=>sw _ q
 obtain⟨T,id,hT,ht,hg⟩:=hr Y { s3 with heap:=s3.heap.push { cls:=.type "slice",data:=.fields #[vl,vu,.none] } } U H3 x v vl vu l u s3.heap.objs.size Q I4 r1 (Heap.IsSliceOf.new ..) pl pu q3;show wpAny (model X.prog X.w) X.A (subscriptTail e (.Slice lo hi none p2) v (.ref s3.heap.objs.size)) (EP X Y U Q) X.xe { s3 with heap:=s3.heap.push { cls:=.type "slice",data:=.fields #[vl,vu,.none] } };exact tail_any (ops:=[.ref s3.heap.objs.size,v]) ht hT hg (by with_unfolding_all rfl)
abbrev nE (xs:List V)(lo hi:Option Int):List V:=(xs.drop (HT.oZ xs.length 0 lo)).take (HT.oZ xs.length xs.length hi-HT.oZ xs.length 0 lo)
def nK (xs:List V)(lo hi:Option Int):(nE xs lo hi).length<=xs.length:=by
 unfold nE;rw[db,io]
 omega
end
abbrev vH (n:Nat)(i:Int):Option Nat:=if 0<=i then(if i<n then some i.toNat else none) else if -(n:Int)<=i then some (i+n).toNat else none
variable {α:Type}
abbrev kx (xs:List α)(i:Int):Option α:=(vH xs.length i).bind λj=>xs[j]?
variable {n:Nat}
def sR {i:Int}{j:Nat}(h:vH n i=some j):seqIndex? i n=some j/\j<n/\ -(n:Int)<=i/\i<n:=by
 unfold vH at h
 by_cases h0:0<=i
 .rw[if_pos h0]at h
  by_cases h1:i<n
  .rw[if_pos h1]at h;have e:i.toNat=j:=Option.some.inj h;exact⟨by rw[seqIndex_of h0 h1,e],by omega,by omega,h1⟩
  .rw[if_neg h1]at h;cases h
 .rw[if_neg h0]at h
  by_cases h1: -(n:Int)<=i
  .rw[if_pos h1]at h;have e:(i+n).toNat=j:=Option.some.inj h;exact⟨by rw[seqIndex_neg nofun h1,e],by omega,h1,by omega⟩
  .rw[if_neg h1]at h;cases h
def a8 {xs:List α}{i:Int}{v:α}(h:kx xs i=some v):∃ j,seqIndex? i xs.length=some j/\xs[j]? =some v/\j<xs.length/\ -(xs.length:Int)<=i/\i<xs.length:=by
 unfold kx at h;cases e:vH xs.length i with
 |none=>rw[e]at h;cases h
 |some j=>
  rw[e]at h;obtain⟨h1,h2,h3,h4⟩:=sR e;exact⟨j,h1,h,h2,h3,h4⟩
def ml {xs:List α}{j:Nat}{v:α}(h:xs[j]? =some v):kx xs (j:Int)=some v:=by
 have hj:j<xs.length:=(sn.mp h).1;have e:vH xs.length (j:Int)=some j:=by
  unfold vH;rw[if_pos nofun,if_pos nofun];simp
 unfold kx;rw[e];exact h
abbrev tH (b:Expr):Prop:=∀ o i,subscripted b false o i=operate [o,i] (getItem o i)
abbrev FW (X:Cx)(r:R2):Prop:=
 ∀ (value slice:Expr) (Y:KG) (s:Shared) (U:St) (H:Hp) (x y:V) (v u:Value) (Q:VK),Inv X Y U H s->RelV x v->RelV y u->r x y H Q->
  subscripted slice false v u=operate [v,u] (getItem v u)->wpAny (model X.prog X.w) X.A (subscriptTail value slice v u) (EP X Y U Q) X.xe s
abbrev HG (X:Cx)(id:String)(r:V->List V->Hp->VK->Prop):Prop:=
 ∀ (Y:KG) (s:Shared) (U:St) (H:Hp) (x:V) (xs:List V) (v:Value) (us:List Value) (Q:VK),Inv X Y U H s->RelV x v->Vals xs us->r x xs H Q->
  wpAny (model X.prog X.w) X.A (call (.builtin id) (v::us)) (EP X Y U Q) X.xe s
variable {Y:KG}{U:St}{H:Hp}{s:Shared}{y:V}{u:Value}
section
variable {X:Cx}{a b:Expr}{ta tb:TE}{pos:Pos}
def FH {r:R2}(hr:FW X r)(ha:PE X a ta)(hb:PE X b tb)(hs:tH b):PE X (.Subscript a b pos) (HM r ta tb):=by
 intro Y s U H Q I h;exact Subscript_ (Dn ha hb I h λv u s2 x y H2 I2 rx ry q=>hr a b Y s2 U H2 x y v u Q I2 rx ry q (hs _ _))
abbrev Ih (K:W.Frag):R2:=λx y H Q=>∃ p xs i v,x=.ref p/\y=.int i/\aY K H p xs/\kx xs i=some v/\Q v H
abbrev HS (K:W.Frag):R2:=λx y H Q=>∃ p xs i v,x=.ref p/\y=.int i/\aZ K H p xs/\kx xs i=some v/\Q v H
def AK:FW X (Ih X.K):=by
 intro value slice Y s U H x y v u Q I rx ry h hs;obtain⟨p,xs,i,z,rfl,rfl,hq,he,q⟩:=h;cases rx;obtain⟨t,rfl⟩:=ry;obtain⟨its,r,pl,hz⟩:=I.list hq;obtain⟨j,h1,h2,h3,h4,h5⟩:=a8 he;obtain⟨w,ew,rw'⟩:=r.get h2;have hl:=r.length;have hn:=gY;have fin:EP X Y U Q w s:=⟨z,H,I,rw',q⟩
 by_cases h0:0<=i
 .have hj:i.toNat=j:=by
   rw[seqIndex_of h0 h5]at h1;exact Option.some.inj h1
  exact item_listR pl.isList h0 nofun (by rw[hj];simpa using ew) fin hs
 .have hj:(i+(its.toArray.size:Int)).toNat=j:=by
   rw[seqIndex_neg nofun h4]at h1;rw[ge,<-hl];exact Option.some.inj h1
  exact subscriptTail_builtinR (x:=w) pl.isList.typeIs slot_list_getitem.lookup
   (wpAny_getItem_list_neg (Q:=λr s'=>r=w/\EP X Y U Q r s') pl.isList nofun (by rw[ge]<;>omega) nofun (by rw[hj];simpa using ew) ⟨rfl,fin⟩) hs
def Dk:FW X (HS X.K):=by
 intro value slice Y s U H x y v u Q I rx ry h hs;obtain⟨p,xs,i,z,rfl,rfl,hq,he,q⟩:=h;cases rx;obtain⟨t,rfl⟩:=ry;obtain⟨its,r,pl,hz⟩:=I.tuple hq;obtain⟨j,h1,h2,h3,h4,h5⟩:=a8 he;obtain⟨w,ew,rw'⟩:=r.get h2;have hl:=r.length;have hn:=gY;have fin:EP X Y U Q w s:=⟨z,H,I,rw',q⟩;exact subscriptTail_builtinR (x:=w) pl.typeIs slot_tuple_getitem.lookup
  (getItem_tuple (j:=j) (Q:=λr s'=>r=w/\EP X Y U Q r s') pl nofun nofun (by rw[ge,<-hl];exact h1) (by simpa using ew) ⟨rfl,fin⟩) hs
def qk (its:List Value)(n j:Nat)(u:Value):Obj.mapSeq (·.setIfInBounds j u) { cls:=.type "list",data:=.seq its.toArray n }={ cls:=.type "list",data:=.seq (its.set j u).toArray n }:=by
 simp[Obj.mapSeq]
def Inv.lst {Y:KG}{U:St}{H:Hp}{s:Shared}{p:Addr}{xs:List V}(I:Inv X Y U H s)(h:H p=some (.lst xs)):
  ∃ (its:List Value) (n:Nat),Vals xs its/\s.heap.get? p=some { cls:=.type "list",data:=.seq its.toArray n }/\xs.length<=bn:=by
 obtain⟨z,its,n,r,e⟩:=I.hok p _ h;exact⟨its,n,r,e,z⟩
def Inv.CY {p:Addr}{xs ys:List V}{its its':List Value}{n':Nat}{f:Obj->Obj}(I:Inv X Y U H s)(h:H p=some (.lst xs))
  (ho:s.heap.get? p=some { cls:=.type "list",data:=.seq its.toArray n }) (hf:f { cls:=.type "list",data:=.seq its.toArray n }={ cls:=.type "list",data:=.seq its'.toArray n' }) (r:Vals ys its') (hz:ys.length<=bn) (t:Nat):
  Inv X Y U (upd H p (.lst ys)) { s with heap:=s.heap.update p f,toks:=t }:=by
 have e:(s.heap.update p f).get? p=some { cls:=.type "list",data:=.seq its'.toArray n' }:=by
  rw[Heap.get?_update_self f ho (by rw[hf]<;>rfl),hf]
 refine I.write (x:=p) (e:=p) (by rw[h];trivial) (.inl rfl) (λb u hb q=>(Heap.get?_update_other _ _ (Ne.symm hb)).trans q) ⟨_,e⟩ ?_;exact⟨hz,its',n',r,e⟩
abbrev Ff:V->V->V->Hp->(Hp->Prop)->Prop:=λo i v H Q=>∃ p xs k j,o=.ref p/\i=.int k/\H p=some (.lst xs)/\vH xs.length k=some j/\Q (upd H p (.lst (xs.set j v)))
def set_list:Bj X Ff:=by
 intro Y s U H o i v ov iv u Q I ro ri rv h;obtain⟨p,xs,k,j,rfl,rfl,hp,hj,q⟩:=h;cases ro;obtain⟨t,rfl⟩:=ri;obtain⟨its,n,r,ho,hz⟩:=I.lst hp;obtain⟨h1,h2,h3,h4⟩:=sR hj;have hl:=r.length;have hn:=gY;have I':Inv X Y U (upd H p (.lst (xs.set j v))) { s with heap:=s.heap.update p (Obj.mapSeq (·.setIfInBounds j u)) }:=
  I.CY hp ho (qk its n j u) (r.set rv j) (by rw[length_set];exact hz) s.toks
 by_cases h0:0<=k
 .have hk:k.toNat=j:=by
   rw[seqIndex_of h0 h4]at h1;exact Option.some.inj h1
  exact W.ki_setAt ho h0 nofun (by rw[ge,<-hl];exact h4) (by rw[hk];exact⟨_,I',q⟩)
 .have hk:(k+(its.toArray.size:Int)).toNat=j:=by
   rw[seqIndex_neg nofun h3]at h1;rw[ge,<-hl];exact Option.some.inj h1
  exact W.ki_setBack ho nofun (by rw[ge,<-hl];exact h3) nofun (by rw[hk];exact⟨_,I',q⟩)
def mX (lo hi:Option Int)(n:Nat):(sliceBounds lo hi none n).1=((HT.oZ n 0 lo:Nat):Int)/\(sliceBounds lo hi none n).2.1=((HT.oZ n n hi:Nat):Int)/\(sliceBounds lo hi none n).2.2=1:=by
 refine⟨?_,?_,rfl⟩
 .cases lo with
  |none=>simp[sliceBounds,HT.oZ]
  |some i=>
   simp only[sliceBounds,HT.oZ,Option.getD_none,show(1:Int)>0 by decide,if_true]
   by_cases h:i<0
   .simp only[h,if_true]<;>omega
   .simp only[h,if_false]<;>omega
 .cases hi with
  |none=>simp[sliceBounds,HT.oZ]
  |some i=>
   simp only[sliceBounds,HT.oZ,Option.getD_none,show(1:Int)>0 by decide,if_true]
   by_cases h:i<0
   .simp only[h,if_true]<;>omega
   .simp only[h,if_false]<;>omega
def kQ (its:List Value)(lo hi:Option Int):slicePick its.toArray lo hi none=((its.drop (HT.oZ its.length 0 lo)).take (HT.oZ its.length its.length hi-HT.oZ its.length 0 lo)).toArray:=by
 obtain⟨h1,h2,h3⟩:=mX lo hi its.toArray.size;unfold slicePick;rw[h1,h2,h3];simp only[sliceRange_one,pick_run,ge]<;>rfl
abbrev IS (K:W.Frag):V->Option Int->Option Int->Hp->VK->Prop:=λx lo hi H Q=>∃ a xs,x=.ref a/\aY K H a xs/\∀ p,H p=none->Q (.ref p) (upd H p (.lst (nE xs lo hi)))
def Af:HE X (IS X.K):=by
 intro Y s U H x v vl vu lo hi sl Q I rx hs pl pu h;obtain⟨a,xs,rfl,hx,q⟩:=h;cases rx;obtain⟨its,r,ht,hz⟩:=I.list hx;have hlen:=r.length;refine⟨"list",_,slot_list_getitem.lookup,ht.isList.typeIs,?_⟩;refine wpAny_getItem_list_slice ht.isList hs pl pu .none (by simp) ?_ (by rw[ge]<;>omega);rw[kQ,<-hlen];refine⟨.ref s.heap.objs.size,_,I.laid (t':=s.toks) (o:=.lst (nE xs lo hi)) (λb ob q=>sw _ q) (pc _) ?_,rfl,q _ (I.hok.fresh (pc _))⟩;exact⟨Nat.le_trans (nK xs lo hi) hz,_,0,(r.drop (HT.oZ xs.length 0 lo)).take (HT.oZ xs.length xs.length hi-HT.oZ xs.length 0 lo),tz _ rfl⟩
abbrev aN:V->Bool
 | .non=>true
 | .bl _=>true
 | .int _=>true
 | .str _=>true
 |_=>false
abbrev cJ:V->V->Bool
 | .non,.non=>true
 | .bl a,.bl b=>a ==b
 | .bl a,.int b=>(if a then 1 else 0) ==b
 | .int a,.bl b=>a ==(if b then 1 else 0)
 | .int a,.int b=>a ==b
 | .str a,.str b=>a ==b
 |_,_=>false
def qQ {A:Around}{x:V}{v:Value}(ry:RelV y u)(rx:RelV x v)(fy:aN y=true)(fx:aN x=true):SeqAt.EqAt A s u v (cJ y x):=by
 cases y with
 |non=>
  cases ry;cases x with
  |non=>cases rx;exact SeqAt.EqAt.same _
  |bl b=>cases rx;exact SeqAt.EqAt.none_bool b
  |int b=>obtain⟨t,rfl⟩:=rx;exact SeqAt.EqAt.none_int b t
  |str b=>obtain⟨t,rfl⟩:=rx;exact SeqAt.EqAt.none_str b t
  |_=>exact absurd (show false=true from fx) Bool.false_ne_true
 |bl a=>
  cases ry;cases x with
  |non=>cases rx;exact SeqAt.EqAt.bool_none a
  |bl b=>cases rx;exact SeqAt.EqAt.bool_bool a b
  |int b=>obtain⟨t,rfl⟩:=rx;exact SeqAt.EqAt.bool_int a b t
  |str b=>obtain⟨t,rfl⟩:=rx;exact SeqAt.EqAt.bool_str a b t
  |_=>exact absurd (show false=true from fx) Bool.false_ne_true
 |int a=>
  obtain⟨t',rfl⟩:=ry;cases x with
  |non=>cases rx;exact SeqAt.EqAt.int_none a t'
  |bl b=>cases rx;exact SeqAt.EqAt.int_bool a t' b
  |int b=>obtain⟨t,rfl⟩:=rx;exact SeqAt.EqAt.int_int a t' b t
  |str b=>obtain⟨t,rfl⟩:=rx;exact SeqAt.EqAt.int_str a t' b t
  |_=>exact absurd (show false=true from fx) Bool.false_ne_true
 |str a=>
  obtain⟨t',rfl⟩:=ry;cases x with
  |non=>cases rx;exact SeqAt.EqAt.str_none a t'
  |bl b=>cases rx;exact SeqAt.EqAt.str_bool a t' b
  |int b=>obtain⟨t,rfl⟩:=rx;exact SeqAt.EqAt.str_int a t' b t
  |str b=>obtain⟨t,rfl⟩:=rx;exact SeqAt.EqAt.str_str a t' b t
  |_=>exact absurd (show false=true from fx) Bool.false_ne_true
 |_=>exact absurd (show false=true from fy) Bool.false_ne_true
abbrev A1 (x:V)(u:Value):Bool:=match u with
 | .none=>cJ .non x
 | .bool b=>cJ (.bl b) x
 | .int i _=>cJ (.int i) x
 | .str z _=>cJ (.str z) x
 |_=>false
def yx {x:V}(r:RelV y u)(f:aN y=true):A1 x u=cJ y x:=by
 cases y with
 |non=>cases r;rfl
 |bl b=>cases r;rfl
 |int i=>obtain⟨t,rfl⟩:=r;rfl
 |str z=>obtain⟨t,rfl⟩:=r;rfl
 |_=>exact absurd (show false=true from f) Bool.false_ne_true
def nu {x:V}:∀ {xs:List V}{us:List Value},Vals xs us->xs.all aN=true->us.any (A1 x)=xs.any λy=>cJ y x
 |_,_,.nil,_=>rfl
 |y::xs,u::us,.cons r t,f=>by
  rw[all_cons,lw]at f;rw[any_cons,any_cons,yx r f.1,nu t f.2]
def ke {A:Around}{s:Shared}{x:V}{v:Value}(rx:RelV x v)(fx:aN x=true):∀ {xs:List V}{us:List Value},Vals xs us->xs.all aN=true->∀ u ∈ us,SeqAt.EqAt A s u v (A1 x u)
 |_,_,.nil,_=>λu hu=>by cases hu
 |y::xs,u::us,.cons r t,f=>λu' hu=>by
  rw[all_cons,lw]at f;rcases li.mp hu with rfl|hu
  .rw[yx r f.1];exact qQ r rx f.1 fx
  .exact ke rx fx t f.2 u' hu
abbrev E0 (x:V)(xs:List V):Bool:=xs.any λy=>cJ y x
abbrev Ka (K:W.Frag)(neg:Bool):R2:=λx y H Q=>∃ p xs,y=.ref p/\(aY K H p xs\/aZ K H p xs)/\aN x=true/\xs.all aN=true/\Q (.bl (if neg then !E0 x xs else E0 x xs)) H
def uX:cy X (compareOp .In) (Ka X.K false):=by
 intro Y s U H x y v u Q I rx ry h;obtain⟨p,xs,rfl,hq,fx,fs,q⟩:=h;cases ry;rcases hq with hq|hq
 .obtain⟨its,r,pl,hz⟩:=I.list hq;refine SeqAt.in_listAt (A1 x) pl.isList (λw hw=>ke rx fx r fs w (by simpa using hw)) ⟨.bl _,H,I,rfl,?_⟩;rw[show its.toArray.any (A1 x)=its.any (A1 x) by simp,nu r fs];exact q
 .obtain⟨its,r,pl,hz⟩:=I.tuple hq;refine SeqAt.in_tupleAt (A1 x) pl (λw hw=>ke rx fx r fs w (by simpa using hw)) ⟨.bl _,H,I,rfl,?_⟩;rw[show its.toArray.any (A1 x)=its.any (A1 x) by simp,nu r fs];exact q
def mq:cB X (.type "list") (λxs H Q=>∃ p ys,xs=[.ref p]/\(aY X.K H p ys\/aZ X.K H p ys)/\∀ l,H l=none->Q (.ref l) (upd H l (.lst ys))):=by
 intro Y s U H xs us Q I r h;obtain⟨p,ys,rfl,hq,q⟩:=h;obtain⟨u,rfl,rx⟩:=vals1 r;cases rx;have fin:∀ (its:List Value),Vals ys its->ys.length<=bn->∀ (h':Heap) (c':Nat),(∀ b o',s.heap.get? b=some o'->h'.get? b=some o')->
   h'.get? s.heap.objs.size=some { cls:=.type "list",dict:=none,data:=.seq its.toArray c',slots:=#[] }->EP X Y U Q (.ref s.heap.objs.size) { s with heap:=h' }:=λits r' hz h' c' kp e=>
  ⟨.ref s.heap.objs.size,_,I.laid (t':=s.toks) kp (pc _) (show aC X.prog X.w _ h' _ (.lst ys) from⟨hz,its,c',r',e⟩),rfl,q _ (I.hok.fresh (pc _))⟩
 rcases hq with hq|hq
 .obtain⟨its,r',pl,hz⟩:=I.list hq;have hlen:=r'.length;obtain⟨o,ho,hc,n,hd⟩:=pl.isList;exact call_list_seq p (.inl rfl) ho hc hd (λh' c' kp e=>fin its r' hz h' c' kp e) (by simp only[ge]<;>omega)
 .obtain⟨its,r',pl,hz⟩:=I.tuple hq;have hlen:=r'.length;obtain⟨o,ho,hc,n,hd⟩:=pl;exact call_list_seq p (.inr rfl) ho hc hd (λh' c' kp e=>fin its r' hz h' c' kp e) (by simp only[ge]<;>omega)
def kJ:cB X (.type "tuple") (λxs H Q=>∃ p ys,xs=[.ref p]/\((aY X.K H p ys/\∀ l,H l=none->Q (.ref l) (upd H l (.tup ys)))\/(aZ X.K H p ys/\Q (.ref p) H))):=by
 intro Y s U H xs us Q I r h;obtain⟨p,ys,rfl,h⟩:=h;obtain⟨u,rfl,rx⟩:=vals1 r;cases rx;rcases h with⟨hq,q⟩|⟨hq,q⟩
 .obtain⟨its,r',pl,hz⟩:=I.list hq;have hlen:=r'.length;refine call_tuple_list pl.isList (λh' kp=>?_) (by simp only[ge]<;>omega);have I1:Inv X Y U H { s with heap:=h' }:=I.kept (t':=s.toks) kp;have I2:Inv X Y U (upd H h'.objs.size (.tup ys)) { s with heap:=h'.push { cls:=.type "tuple",data:=.seq its.toArray } }:=
   I1.laid (t':=s.toks) (λb o e=>sw _ e) (pc _) (show aC X.prog X.w _ _ _ (.tup ys) from⟨hz,its,r',IsTup.new _ _⟩)
  exact⟨.ref h'.objs.size,_,I2,rfl,q _ (I1.hok.fresh (pc _))⟩
 .obtain⟨its,r',pl,hz⟩:=I.tuple hq;exact call_tuple_same pl ⟨.ref p,H,I,rfl,q⟩
abbrev Ie (K:W.Frag)(T:String)(x:V)(H:Hp):Prop:=match x with
 | .str _=>T="str"
 | .int _=>T="int"
 | .ref p=>(T="list"/\∃ xs,aY K H p xs)\/(T="tuple"/\∃ o,K.lookup p=some o/\o.cls=.type "tuple"/\o.dict=none)\/
   (T="dict"/\((∃ kvs,H p=some (.dK kvs))\/∃ kvs,H p=some (.dT kvs)))\/(T="set"/\∃ S n,H p=some (.set S n))
 |_=>False
def qz {T:String}{x:V}{v:Value}(I:Inv X Y U H s)(r:RelV x v)(ty:Ie X.K T x H):
  s.TypeIs v T/\∀ a,v=.ref a->∃ ob,s.heap.get? a=some ob/\ob.dict=none:=by
 cases x with
 |str z=>
  obtain⟨t,rfl⟩:=r;cases(show T="str" from ty);exact⟨typeIs_str s z t,λ_ e=>nomatch e⟩
 |int i=>
  obtain⟨t,rfl⟩:=r;cases(show T="int" from ty);exact⟨typeIs_int s i t,λ_ e=>nomatch e⟩
 |ref p=>
  cases r;rcases ty with⟨rfl,xs,hq⟩|⟨rfl,o,hk,hc,hd⟩|⟨rfl,hk⟩|⟨rfl,S,n,hk⟩
  .obtain⟨its,_,pl,_⟩:=I.list hq;refine⟨pl.isList.typeIs,λa e=>?_⟩;cases e;obtain⟨o,n,e,c,hd,_⟩:=pl;exact⟨o,e,hd⟩
  .refine⟨⟨o,I.bO p o hk,hc⟩,λa e=>?_⟩;cases e;exact⟨o,I.bO _ o hk,hd⟩
  .have z:∃ o,s.heap.get? p=some o/\o.ExactDict:=by
    rcases hk with⟨kvs,hk⟩|⟨kvs,hk⟩
    .obtain⟨_,_,_,_,o,_,_,e,ex,_⟩:=I.hok p _ hk;exact⟨o,e,ex⟩
    .obtain⟨_,_,_,_,o,_,_,e,ex,_⟩:=I.hok p _ hk;exact⟨o,e,ex⟩
   obtain⟨o,e,ex⟩:=z;refine⟨⟨o,e,ex.1⟩,λa e2=>?_⟩;cases e2;exact⟨o,e,ex.2.1⟩
  .obtain⟨o,_,_,_,e,ex,_⟩:=I.hok p _ hk;refine⟨⟨o,e,ex.1⟩,λa e2=>?_⟩;cases e2;exact⟨o,e,ex.2.1⟩
 |_=>exact False.elim ty
abbrev IQ (K:W.Frag)(T:String)(r:V->List V->Hp->VK->Prop)(to:TE):TE:=λU H Q=>to U H λx H1=>Ie K T x H1/\r x [] H1 Q
abbrev JW (K:W.Frag)(T:String)(r:V->List V->Hp->VK->Prop)(to:TE)(t:TA):TE:=λU H Q=>to U H λx H1=>Ie K T x H1/\t U H1 λxs H2=>r x xs H2 Q
variable {o e:Expr}{es:List Expr}{to:TE}{t:TA}{name:Str}{apos cpos:Pos}{T id:String}{r:V->List V->Hp->VK->Prop}
def El (pa:PlainAttrs T)(slot:Slot T name id)(hty:typeOf (.builtin id)=pure (.type "method_descriptor")) (hm:HG X id r) (ho:PE X o to)
  (hbase:attributeBase o name X.env (eval o X.env)=eval o X.env:=by rfl) (hline:(apos.endLine ==cpos.line)=true:=by rfl):PE X (.Call (.Attribute o name apos) [] [] cpos) (IQ X.K T r to):=by
 intro Y s U H Q I h;refine wpAny_Call_method0_late hbase hline (aw (ho Y s U H _ I h) λv s1 ⟨x,H1,I1,r1,ty,q1⟩=>?_);obtain⟨h1,h2⟩:=qz I1 r1 ty;exact⟨T,id,pa,slot,hty,h1,h2,Calls.callWith_builtin rfl (PySem.evalArgs_none (hm Y s1 U H1 x [] v [] Q I1 r1 .nil q1))⟩
def G3 (pa:PlainAttrs T)(slot:Slot T name id)(hty:typeOf (.builtin id)=pure (.type "method_descriptor")) (hm:HG X id r) (ho:PE X o to) (ha:PA X (e::es) t)
  (hbase:attributeBase o name X.env (eval o X.env)=eval o X.env:=by rfl)
  (hfew:((backTo cpos (bm (e::es) X.env)).all (λx=>!x.1)&&(backToKw cpos (keywordEach [] X.env)).all (λx=>x.1.isSome)
   &&decide ((e::es).length+([]:List Keyword).length+(if([]:List Keyword).isEmpty then 0 else 1)<30))=true:=by rfl)
  (hline:(apos.endLine ==cpos.line)=true:=by rfl) (hs:bm (e::es) X.env=(false,eval e X.env)::bm es X.env:=by rfl) (hplain:(backTo cpos (bm es X.env)).any (·.1)=false:=by rfl):
  PE X (.Call (.Attribute o name apos) (e::es) [] cpos) (JW X.K T r to t):=by
 intro Y s U H Q I h;refine wpAny_Call_method_late hbase hfew hline rfl (aw (ho Y s U H _ I h) λv s1 ⟨x,H1,I1,r1,ty,q1⟩=>?_);obtain⟨h1,h2⟩:=qz I1 r1 ty;refine⟨T,id,pa,slot,hty,h1,h2,?_⟩;have hA:=ha cpos Y s1 U H1 _ I1 q1;rw[hs]at hA⊢;refine Calls.callWith_builtin (by show(false||(backTo cpos (bm es X.env)).any (·.1))=false;rw[hplain]<;>rfl) (Calls.evalArgs_plain ?_);exact aw hA λus s2 ⟨vs,H2,I2,r2,q2⟩=>hm Y s2 U H2 x vs v us Q I2 r1 r2 q2
/- xs.append(e),list.index on a module's tuple .. are HG facts of 06m -/
end
abbrev Jq (X:Cx)(id:String)(r:V->List V->Hp->VK->Prop):Prop:=
 ∀ (Y:KG) (s:Shared) (U:St) (H:Hp) (x:V) (xs:List V) (v:Value) (us:List Value) (Q:VK),Inv X Y U H s->RelV x v->Vals xs us->r x xs H Q->
  wpAny (model X.prog X.w) X.A (call (.builtin id) (v::us)) (EP X Y U Q) X.xe s
def Vals.one:∀ {x:V}{us:List Value},Vals [x] us->∃ u,us=[u]/\RelV x u
 |_,_,.cons r .nil=>⟨_,rfl,r⟩
def Vals.zero:∀ {us:List Value},Vals [] us->us=[]
 |_,.nil=>rfl
variable {us:List Value}
def Vals.reverse {xs:List V}(h:Vals xs us):Vals xs.reverse us.reverse:=by
 induction h with
 |nil=>exact .nil
 |cons r t ih=>rw[List.reverse_cons,List.reverse_cons];exact Vals.append ih (.cons r .nil)
def Vals.rep {xs:List V}(h:Vals xs us):∀ k:Nat,Vals (re k xs).flatten (re k us).flatten
 |0=>.nil
 |k+1=>by
  rw[replicate_succ,replicate_succ,flatten_cons,flatten_cons];exact Vals.append h (Vals.rep h k)
def foldl_rep (its:List Value):∀ (k:Nat) (acc:List Value),
  List.foldl (λx1 x2=>x1++x2) acc.toArray (re k its.toArray)=(acc++(re k its).flatten).toArray
 |0,acc=>by simp
 |k+1,acc=>by
  have e:acc.toArray++its.toArray=(acc++its).toArray:=by simp
  have e2:(acc++its)++(re k its).flatten=acc++(re (k+1) its).flatten:=by
   rw[replicate_succ,flatten_cons,jp]
  rw[<-e2,<-foldl_rep its k (acc++its),<-e,replicate_succ,foldl_cons]
section
variable {X:Cx}{Y:KG}{U:St}{H:Hp}{s:Shared}{l b:Addr}{xs ys zs:List V}
def Inv.G6 {its its':List Value}{f:Array Value->Array Value}{t':Nat}(I:Inv X Y U H s)(hH:H l=some (.lst xs))
  (e:s.heap.get? l=some { cls:=.type "list",data:=.seq its.toArray n }) (hf:f its.toArray=its'.toArray) (hv:Vals ys its') (hz:ys.length<=bn):
  Inv X Y U (upd H l (.lst ys)) { s with heap:=s.heap.update l (Obj.mapSeq f),toks:=t' }:=by
 have q:=PySem.IsL.update e f;rw[hf]at q;refine I.write (x:=l) (e:=l) (by rw[hH];exact trivial) (.inl rfl) (λb' u hb hu=>(Heap.get?_update_other s.heap (Obj.mapSeq f) (Ne.symm hb)).trans hu) ⟨_,q⟩ ?_;exact⟨hz,its',_,hv,q⟩
def Inv.Gf {its:List Value}{t':Nat}(I:Inv X Y U H s)(hv:Vals ys its)(hz:ys.length<=bn):
  Inv X Y U (upd H s.heap.objs.size (.lst ys)) { s with heap:=s.heap.push { cls:=.type "list",data:=.seq its.toArray },toks:=t' }:=
 I.laid (λ_ _ q=>sw _ q) (pc _) ⟨hz,its,0,hv,tz _ rfl⟩
def Inv.fresh (I:Inv X Y U H s):H s.heap.objs.size=none:=I.hok.fresh (pc _)
def Inv.qi (I:Inv X Y U H s)(hH:H l=some (.lst xs)):xs.length<=bn/\∃ (its:List Value) (n:Nat),Vals xs its/\xs.length=its.length/\s.heap.get? l=some { cls:=.type "list",data:=.seq its.toArray n }:=by
 obtain⟨z,its,n,r,e⟩:=I.hok l _ hH;exact⟨z,its,n,r,r.length,e⟩
def pF (h:n<=bn):Builtin.List.listTooLong n=false:=by
 unfold Builtin.List.listTooLong;exact decide_eq_false nofun
end
section
variable {X:Cx}
abbrev zW:V->List V->Hp->VK->Prop:=λx vs H Q=>∃ l xs y,x=.ref l/\vs=[y]/\H l=some (.lst xs)/\xs.length<bn/\Q .non (upd H l (.lst (xs++[y])))
def gS:Jq X "list.append" zW:=by
 intro Y s U H x vs v us Q I rx rv h;obtain⟨l,xs,y,rfl,rfl,hH,hz,q⟩:=h;cases rx;obtain⟨u,rfl,ru⟩:=rv.one;obtain⟨z,its,n,r,hl,e⟩:=I.qi hH;refine call_meets F.slot_list_append ⟨_,e,rfl⟩ F.entry_list_append (F.args_list_append_2 _ _) (PySem.list_append l its.toArray n u (by rw[ge];omega)) ⟨e,?_⟩;refine⟨.non,_,I.G6 (its':=its++[u]) hH e (by simp) (r.append (.cons ru .nil)) ?_,rfl,q⟩;rw[ci,f8]
 omega
abbrev Bd:V->List V->Hp->VK->Prop:=λx vs H Q=>∃ l b xs zs,x=.ref l/\vs=[.ref b]/\H l=some (.lst xs)/\H b=some (.lst zs)/\xs.length+zs.length<=bn/\Q .non (upd H l (.lst (xs++zs)))
def uW:Jq X "list.extend" Bd:=by
 intro Y s U H x vs v us Q I rx rv h;obtain⟨l,b,xs,zs,rfl,rfl,hH,hB,hz,q⟩:=h;cases rx;obtain⟨u,rfl,ru⟩:=rv.one;cases ru;obtain⟨z,its,n,r,hl,e⟩:=I.qi hH;obtain⟨z2,kg,n2,r2,hl2,e2⟩:=I.qi hB;have hsz:its.toArray.size+kg.toArray.size<=bn:=by rw[ge,ge];omega
 have hlong:¬ (!its.toArray.isEmpty&&Builtin.List.listTooLong (its.toArray.size+kg.toArray.size))=true:=by
  rw[pF hsz,Bool.and_false];exact Bool.false_ne_true
 refine call_meets F.slot_list_extend ⟨_,e,rfl⟩ F.entry_list_extend (F.args_list_extend_2 _ _)
  (AutoSeq1.list_extend_list_list_0 l its.toArray n b kg.toArray n2 hlong (by rw[ge];omega) nofun) ⟨e,e2,?_⟩
 refine⟨.non,_,I.G6 (its':=its++kg) hH e (by simp) (r.append r2) ?_,rfl,q⟩;rw[ci]
 omega
abbrev IA:R2:=λx y H Q=>∃ l b xs zs,x=.ref l/\y=.ref b/\H l=some (.lst xs)/\H b=some (.lst zs)/\xs.length+zs.length<=bn/\∀ p,H p=none->Q (.ref p) (upd H p (.lst (xs++zs)))
def Dd:cy X (binaryOp .Add) IA:=by
 intro Y s U H x y v u Q I rx ry h;obtain⟨l,b,xs,zs,rfl,rfl,hH,hB,hz,q⟩:=h;cases rx;cases ry;obtain⟨z,its,n,r,hl,e⟩:=I.qi hH;obtain⟨z2,kg,n2,r2,hl2,e2⟩:=I.qi hB;refine PySem.P.add_list e e2 ?_ (by rw[ge,ge];omega);have ea:its.toArray++kg.toArray=(its++kg).toArray:=by simp
 rw[ea];exact⟨.ref _,_,I.Gf (t':=s.toks) (r.append r2) (by rw[ci];omega),rfl,q _ I.fresh⟩
abbrev Ji:R2:=λx y H Q=>∃ l k xs,x=.ref l/\y=.int k/\H l=some (.lst xs)/\ -(2 ^ 63)<=k/\k<2 ^ 63/\xs.length*k.toNat<=bn/\
 ∀ p,H p=none->Q (.ref p) (upd H p (.lst (re k.toNat xs).flatten))
def len_rep (xs:List α)(k:Nat):(re k xs).flatten.length=k*xs.length:=by
 induction k with
 |zero=>simp
 |succ k ih=>rw[replicate_succ,flatten_cons,ci,ih,Nat.succ_mul,Nat.add_comm]
def Cm:cy X (binaryOp .Mult) Ji:=by
 intro Y s U H x y v u Q I rx ry h;obtain⟨l,k,xs,rfl,rfl,hH,h1,h2,hz,q⟩:=h;cases rx;obtain⟨t,rfl⟩:=ry;obtain⟨z,its,n,r,hl,e⟩:=I.qi hH;have hlen:its.toArray.size*k.toNat<=bn:=by rw[ge,<-hl];exact hz
 have hcap:¬ its.toArray.size*k.toNat>(2 ^ 63-1) / 8:=by
  have:(bn:Nat)<=(2 ^ 63-1) / 8:=by decide
  omega
 have hfit:¬ (!Builtin.List.listFitsIndex k)=true:=by
  rw[fitsIndex_both h1 h2];exact Bool.false_ne_true
 have hlong:¬ Builtin.List.listTooLong (its.toArray.size*k.toNat)=true:=by
  rw[pF hlen];exact Bool.false_ne_true
 have hnew:List.foldl (λx1 x2=>x1++x2) #[] (re (if its.toArray.isEmpty=true then 0 else k.toNat) its.toArray)=(re k.toNat its).flatten.toArray:=by
  have f0:∀ m:Nat,List.foldl (λx1 x2=>x1++x2) #[] (re m its.toArray)=(re m its).flatten.toArray:=λm=>by
   have:=foldl_rep its m [];rw[nil_append]at this;exact this
  rw[f0];cases its with
  |nil=>simp
  |cons a r'=>rw[if_neg (by simp)]
 refine wpAny_binaryOp_repeat_ref (T:="list") (U:="int") (by decide) ⟨_,e,rfl⟩ (λs'=>typeIs_int s' k t) noFill_list_mul F.fills_int_mul F.slot_int_rmul repeat_list F.slot_int_index.lookup
  (call_meets F.slot_int_rmul (typeIs_int s k t) F.entry_int_rmul (F.args_int_rmul_2 _ _) (int___rmul___int_list k t l its.toArray n)
   ⟨e,rfl,⟨_,e,rfl⟩,call_meets F.slot_list_mul ⟨_,e,rfl⟩ F.entry_list_mul (F.args_list_mul_2 _ _) (AutoListH.list___mul___list_int_3 l its.toArray n k t hfit hcap hlong) ⟨e,?_⟩⟩)
 rw[hnew];exact⟨.ref _,_,I.Gf (t':=s.toks) (r.rep k.toNat) (by rw[len_rep,Nat.mul_comm];exact hz),rfl,q _ I.fresh⟩
end
section
variable {prog:Program}{w:World}{A:Around}{E:KD}{s:Shared}
set_option maxRecDepth 100000 in
end
section
variable {X:Cx}
end
variable {o:Option V}
section
variable {κ:Type} [DecidableEq κ]
abbrev i7 (kvs:List (κ×V))(k:κ):Option V:=(kvs.find? λkv=>decide (kv.1=k)).map (·.2)
abbrev putK (kvs:List (κ×V))(k:κ)(v:V):List (κ×V):=
 if(kvs.any λkv=>decide (kv.1=k))=true then kvs.map (λkv=>if kv.1=k then(kv.1,v) else kv) else kvs++[(k,v)]
def j4 {p:κ×V}{r:List (κ×V)}{k:κ}(e:p.1=k):i7 (p::r) k=some p.2:=by simp[i7,find?_cons,e]
def jr {p:κ×V}{r:List (κ×V)}{k:κ}(e:¬ p.1=k):i7 (p::r) k=i7 r k:=by simp[i7,find?_cons,e]
def nV (k:κ):∀ kvs:List (κ×V),(kvs.any λkv=>decide (kv.1=k))=(i7 kvs k).isSome
 | []=>rfl
 |p::r=>by
  rw[any_cons]
  by_cases e:p.1=k
  .simp only[j4 e,decide_eq_true e,Bool.true_or,Option.isSome_some]
  .rw[jr e,decide_eq_false e,Bool.false_or];exact nV k r
def dQ (kvs:List (κ×V))(k:κ)(v:V):(putK kvs k v).length<=kvs.length+1:=by
 unfold putK
 split
 .rw[ce];omega
 .rw[ci,length_cons,length_nil];omega
def cP.uj {u:Option Value}(r:cP o u):o.isSome=u.isSome:=by
 cases o with
 |none=>cases u with
  |none=>rfl
  |some _=>exact(show False from r).elim
 |some _=>cases u with
  |none=>exact(show False from r).elim
  |some _=>rfl
def KV.val {kvs:List (κ×V)}{vs:List (κ×Value)}(r:KV kvs vs)(k:κ):cP (i7 kvs k) (valueAt vs k):=by
 unfold KV at r
 induction r with
 |nil=>exact True.intro
 | @cons p q ps qs h t ih=>
  obtain⟨h1,h2⟩:=h
  by_cases e:p.1=k
  .have e':q.1=k:=h1.symm.trans e;have b:valueAt (q::qs) k=some q.2:=by simp[valueAt,find?_cons,e']
   rw[j4 e,b];exact h2
  .have e':¬ q.1=k:=λz=>e (h1.trans z)
   have b:valueAt (q::qs) k=valueAt qs k:=by simp[valueAt,find?_cons,e']
   rw[jr e,b];exact ih
def KV.any {kvs:List (κ×V)}{vs:List (κ×Value)}(r:KV kvs vs)(k:κ):(kvs.any λkv=>decide (kv.1=k))=vs.any λkv=>decide (kv.1=k):=by
 unfold KV at r
 induction r with
 |nil=>rfl
 |cons h t ih=>rw[any_cons,any_cons,ih,h.1]
def KV.DS {kvs:List (κ×V)}{vs:List (κ×Value)}(r:KV kvs vs)(k:κ)(ry:RelV y u):
  KV (kvs.map λkv=>if kv.1=k then(kv.1,y) else kv) (vs.map λkv=>if kv.1=k then(kv.1,u) else kv):=by
 unfold KV at r⊢
 induction r with
 |nil=>exact .nil
 | @cons p q ps qs h t ih=>
  rw[map_cons,map_cons];refine .cons ?_ ih;obtain⟨h1,h2⟩:=h
  by_cases e:p.1=k
  .rw[if_pos e,if_pos (h1.symm.trans e)];exact⟨h1,ry⟩
  .rw[if_neg e,if_neg (λz=>e (h1.trans z))];exact⟨h1,h2⟩
def KV.put {kvs:List (κ×V)}{vs:List (κ×Value)}(r:KV kvs vs)(k:κ)(ry:RelV y u):KV (putK kvs k y) (stored vs k u):=by
 unfold putK stored;rw[r.any k]
 by_cases e:(vs.any λkv=>decide (kv.1=k))=true
 .rw[if_pos e,if_pos e];exact r.DS k ry
 .rw[if_neg e,if_neg e];exact Paired.snoc r ⟨rfl,ry⟩
def KV.length {kvs:List (κ×V)}{vs:List (κ×Value)}(r:KV kvs vs):kvs.length=vs.length:=Paired.length r
end
variable {P:Program}{w:World}
def nZ {k:Key}(r:RelV (kV k) u):(au P w).is k u=true:=by
 cases k with
 |inl i=>obtain⟨t,e⟩:=(show ∃ t,u=Value.int i t from r);subst e;exact pS P w i t
 |inr x=>obtain⟨t,e⟩:=(show ∃ t,u=Value.str x t from r);subst e;exact n9 P w x t
def lN {P:Program}{w:World}:∀ {ks:List Key}{us:List Value},Vals (ks.map kV) us->ItemsAre (au P w) ks us
 | [],_,r=>by rw[List.map_nil]at r;cases r;exact .nil
 |k::ks,_,r=>by
  rw[map_cons]at r;cases r with
  |cons h t=>exact .cons (nZ h) (lN t)
@[reducible]def KT (H:Hp):List (List Key×V)->List (List Key×Addr×Value)->Prop:=Paired λp q=>p.1=q.1/\H q.2.1=some (.tup (p.1.map kV))/\RelV p.2 q.2.2
variable {xs:List (List Key×Addr×Value)}{kvs:List (List Key×V)}
def KT.val (r:KT H kvs xs)(k:List Key):cP (i7 kvs k) ((atKey xs k).map (·.2)):=by
 induction r with
 |nil=>exact True.intro
 | @cons p q ps qs h t ih=>
  obtain⟨h1,_,h2⟩:=h
  by_cases e:p.1=k
  .have e':q.1=k:=h1.symm.trans e;have b:atKey (q::qs) k=some q.2:=by simp[atKey,find?_cons,e']
   rw[j4 e,b];exact h2
  .have e':¬ q.1=k:=λz=>e (h1.trans z)
   have b:atKey (q::qs) k=atKey qs k:=by simp[atKey,find?_cons,e']
   rw[jr e,b];exact ih
def KT.DS (r:KT H kvs xs)(k:List Key)(ry:RelV y u):
  KT H (kvs.map λkv=>if kv.1=k then(kv.1,y) else kv) (xs.map (putAt k u)):=by
 induction r with
 |nil=>exact .nil
 | @cons p q ps qs h t ih=>
  rw[map_cons,map_cons];refine .cons ?_ ih;obtain⟨h1,h2,h3⟩:=h;unfold putAt
  by_cases e:p.1=k
  .rw[if_pos e,if_pos (h1.symm.trans e)];exact⟨h1,h2,ry⟩
  .rw[if_neg e,if_neg (λz=>e (h1.trans z))];exact⟨h1,h2,h3⟩
def KT.put (r:KT H kvs xs)(k:List Key){b:Addr}(hb:H b=some (.tup (k.map kV)))(ry:RelV y u):
  KT H (putK kvs k y) (storedH xs k b u):=by
 have e:(kvs.any λkv=>decide (kv.1=k))=(atKey xs k).isSome:=by
  rw[nV,(r.val k).uj,Option.isSome_map]
 unfold putK storedH;rw[e]
 by_cases q:(atKey xs k).isSome=true
 .rw[if_pos q,if_pos q];exact r.DS k ry
 .rw[if_neg q,if_neg q];exact Paired.snoc r ⟨rfl,hb,ry⟩
variable {H':Hp}
def KT.keeps (r:KT H kvs xs)(ht:∀ b ys,H b=some (.tup ys)->H' b=some (.tup ys)):KT H' kvs xs:=
 Paired.CL r λ_ _ z=>⟨z.1,ht _ _ z.2.1,z.2.2⟩
section
variable {P:Program}{w:World}{H:Hp}{h:Heap}{a:Addr}
def BQ {u:HO}(ok:fu P w H h)(e:Rd H a u):aC P w H h a u:=e.ok ok
def eP {kvs:List (Key×V)}(ok:fu P w H h)(e:Rd H a (.dK kvs)):kvs.length<=bn/\(a ==sysModules)=false/\∃ vs,KV kvs vs/\h.DictOf (au P w) a vs:=
 show aC P w H h a (.dK kvs) from BQ ok e
def Bu {kvs:List (Key×V)}(ok:fu P w H h)(e:H a=some (.dK kvs)):kvs.length<=bn/\(a ==sysModules)=false/\∃ vs,KV kvs vs/\h.DictOf (au P w) a vs:=eP ok (.inl e)
def qu {ks:List Key}(ok:fu P w H h)(e:H a=some (.tup (ks.map kV))):(tupleKind (au P w)).is h ks a:=by
 obtain⟨_,its,r,o,h1,h2,n,h3⟩:=(show aC P w H h a (.tup (ks.map kV)) from ok a _ e);exact⟨o,its.toArray,n,h1,h2,h3,by simpa using lN r⟩
def yi (ok:fu P w H h)(e:Rd H a (.dT kvs)):kvs.length<=bn/\(a ==sysModules)=false/\
  ∃ xs,KT H kvs xs/\h.DictOfH (tupleKind (au P w)) a xs:=by
 obtain⟨z,y,xs,r,o,es,ep,h1,h2,h3,h4,h5⟩:=(show aC P w H h a (.dT kvs) from BQ ok e);refine⟨z,y,xs,r,o,es,ep,h1,h2,h3,h4,λx hx=>?_,h5⟩;have all:∀ {l:List (List Key×V)}{m:List (List Key×Addr×Value)},KT H l m->∀ x ∈ m,(tupleKind (au P w)).is h x.1 x.2.1:=by
  intro l m q
  induction q with
  |nil=>intro x hx;exact nomatch hx
  | @cons p q ps qs hq t ih=>
   intro x hx;rcases li.mp hx with e|hx
   .subst e;exact qu ok (by rw[<-hq.1];exact hq.2.1)
   .exact ih x hx
 exact all r x hx
def Fx (ok:fu P w H h)(e:H a=some (.dT kvs)):kvs.length<=bn/\(a ==sysModules)=false/\
  ∃ xs,KT H kvs xs/\h.DictOfH (tupleKind (au P w)) a xs:=yi ok (.inl e)
end
abbrev Cu (H:Hp)(a:Addr)(y:V)(r:Option V):Prop:=
 (∃ kvs k,Rd H a (.dK kvs)/\y=kV k/\r=i7 kvs k)\/∃ kvs k b,Rd H a (.dT kvs)/\y=.ref b/\H b=some (.tup (k.map kV))/\r=i7 kvs k
abbrev FO (H:Hp)(a:Addr)(y v:V)(H':Hp):Prop:=
 (∃ kvs k,H a=some (.dK kvs)/\y=kV k/\kvs.length<bn/\H'=upd H a (.dK (putK kvs k v)))\/
 ∃ kvs k b,H a=some (.dT kvs)/\y=.ref b/\H b=some (.tup (k.map kV))/\kvs.length<bn/\H'=upd H a (.dT (putK kvs k v))
section
variable {X:Cx}{Y:KG}{U:St}{H:Hp}{s:Shared}{a:Addr}{y v:V}{u r:Value}{o:Option V}{A:Around}{E:KD}
def Inv.big (I:Inv X Y U H s):sysModules<s.heap.objs.size:=by
 have h:mainGlobals<s.heap.objs.size:=(I.mod.glob.keeps I.bk).lt;exact Nat.lt_trans (by decide) h
def t5 {Q:KD}(hu:A.units+1<cLine)(I:Inv X Y U H s)(g:Cu H a y (some v))(ry:RelV y u)(h:∀ w' s',Inv X Y U H s'->RelV v w'->Q w' s'):
  wpAny (model X.prog X.w) A (getItem (.ref a) u) Q E s:=by
 rcases g with⟨kvs,k,e,ey,l⟩|⟨kvs,k,b,e,ey,eb,l⟩
 .subst ey;obtain⟨z,hd,vs,rel,dd⟩:=eP I.hok e;obtain⟨w',hw,rw'⟩:=cP.some_of (v:=v) (o:=valueAt vs k) (by rw[l];exact rel.val k);exact wpAny_getItem_of (nZ ry) dd.mapOf hw (h w' _ (I.tok _) rw')
 .subst ey;cases(show u=Value.ref b from ry);obtain⟨z,hd,xs,rel,dd⟩:=yi I.hok e;obtain⟨w',hw,rw'⟩:=cP.some_of (v:=v) (o:=(atKey xs k).map (·.2)) (by rw[l];exact rel.val k);obtain⟨p,hp,hp2⟩:=nb.mp hw;refine wpAny_getItem_heap (tupleKind_room_in1 hu) (qu I.hok eb) dd hp ?_;rw[hp2];exact h w' _ (I.tok _) rw'
def nh {h':Heap}{t':Nat}{ob:HO}(I:Inv X Y U H s)(mu:Fy (H a))(hs:Heap.SameBut a s.heap h')(he:∃ q,h'.get? a=some q) (new:aC X.prog X.w (upd H a ob) h' a ob):
  Inv X Y U (upd H a ob) { s with heap:=h',toks:=t' }:=
 I.write (x:=a) (e:=a) mu (.inl rfl) (λb q hb z=>(hs.2 b hb).trans z) he new
def qC {h':Heap}{kvs:List (Key×V)}{vs:List (Key×Value)}(z:kvs.length<=bn)(hd:(a ==sysModules)=false)(rel:KV kvs vs)(dd:h'.DictOf (au P w) a vs):
  aC P w H' h' a (.dK kvs):=⟨z,hd,vs,rel,dd⟩
def ud {Q:KC}(hu:A.units+1<cLine)(I:Inv X Y U H s)(g:FO H a y v H')(ry:RelV y u)(rv:RelV v r)(h:∀ s',Inv X Y U H' s'->Q () s'):
  wpAny (model X.prog X.w) A (setItem (.ref a) u r) Q E s:=by
 rcases g with⟨kvs,k,e,ey,l,eH⟩|⟨kvs,k,b,e,ey,eb,l,eH⟩
 .subst ey eH;obtain⟨z,hd,vs,rel,dd⟩:=Bu I.hok e;have hz:vs.length<=bn:=by rw[<-rel.length];exact z
  have hl:(putK kvs k v).length<=bn:=by have:=dQ kvs k v;omega
  refine wpAny_setItem_pairs (hsz:=hz) (nZ ry) dd λh' dd' hs=>h _ ?_
  have he:∃ q,h'.get? a=some q:=let⟨q,_,_,hq,_⟩:=dd';⟨q,hq⟩;exact nh I (by rw[e];exact True.intro) hs he (qC hl hd (rel.put k rv) dd')
 .subst ey eH;cases(show u=Value.ref b from ry);obtain⟨z,hd,xs,rel,dd⟩:=Fx I.hok e;have hz:xs.length<=bn:=by rw[<-Paired.length rel];exact z
  have hl:(putK kvs k v).length<=bn:=by have:=dQ kvs k v;omega
  refine wpAny_setItem_heap (hsz:=hz) (tupleKind_room_in1 hu) (qu I.hok eb) dd λh' dd' hs=>h _ ?_
  obtain⟨q,es,ep,hq,h2,h3,h4,_,h5⟩:=dd';refine nh I (by rw[e];exact True.intro) hs ⟨q,hq⟩ ⟨hl,hd,_,(rel.put k eb rv).keeps λc ys ec=>?_,q,es,ep,hq,h2,h3,h4,h5⟩;rw[af (FK ec e (λz=>nomatch z))];exact ec
end
section
variable {X:Cx}{Y:KG}{U:St}{H:Hp}{s:Shared}{a:Addr}{kvs:List (Key×V)}{k:Key}{u:Value}{A:Around}{E:KD}
end
def nU {X:Cx}{a:Addr}(I:Inv X Y U H s)(g:Cu H a y o):s.TypeIs (.ref a) "dict":=by
 rcases g with⟨kvs,k,e,_,_⟩|⟨kvs,k,b,e,_,_,_⟩
 .obtain⟨_,_,vs,_,dd⟩:=eP I.hok e;exact dd.typeIs
 .obtain⟨_,_,xs,_,dd⟩:=yi I.hok e;exact dd.typeIs
section
variable {X:Cx}{o i e value:Expr}{pos pos' tpos:Pos}{td ty tv:TE}
end
def wx (h:Heap)(hb:sysModules<h.objs.size):aC P w H (h.push { cls:=.type "dict",data:=.dict #[] }) h.objs.size (.dK []):=
 ⟨Nat.zero_le _,beq_eq_false_iff_ne.mpr (Ne.symm (ol hb)),[],.nil,Heap.DictOf.new h⟩
section
variable {X:Cx}{pos:Pos}
end
section
variable {X:Cx}{Y:KG}{U:St}{H:Hp}{s:Shared}{a:Addr}{y d:V}{u r:Value}{o:Option V}{A:Around}{E:KD}
end
section
variable {X:Cx}{o e f:Expr}{apos cpos:Pos}{td ty tx:TE}
end
section
variable {X:Cx}{Y:KG}{U:St}{H:Hp}{s:Shared}{a:Addr}{kvs:List (Key×V)}{A:Around}{E:KD}
end
section
variable {X:Cx}{Y:KG}{U:St}{H:Hp}{s:Shared}{a:Addr}{y:V}{u:Value}{A:Around}{E:KD}
end
end L2
namespace Att
open PySem PySem.W PySem.Calls PyProof.Rows
variable {P:Params}
def iZ {h:Heap}:∀ (ns:List Int) (vs:List Value),WellAll P h vs (ns.map WData.int)->IntsAre vs ns:=by
 intro ns
 induction ns with
 |nil=>
  intro vs w;rw[List.map_nil]at w;cases w;exact .nil
 |cons n ns ih=>
  intro vs w;rw[map_cons]at w;cases w with
  |cons a b=>
   cases a;exact .cons _ _ (ih _ b)
variable {l:OpenLaw}
def uQ {n:Nat}(hn:l.most=some n){h:Heap}{args:List WData}{vals:List Value}
  (hpre:l.row.toRowW.claim.pre args=true) (hwl:WellAll P h vals args):
  ∃ a vs ns,vals=[Value.ref a]/\args=[WData.list (ns.map WData.int)]/\h.get? a=some { cls:=.type "list",data:=.seq vs.toArray }/\IntsAre vs ns/\ns.length<=n:=by
 have hsh:WShape.hasAll [] args [.list .int]=true:=(pre_splitW hpre).1;have hc:l.pre.holds [] { args:=args }=true:=(pre_splitW hpre).2;obtain⟨d,r,rfl,h1,h2⟩:=hasAllW_cons hsh;obtain rfl:=hasAllW_nil h2;obtain⟨xs,rfl,h3⟩:=hasW_list h1;obtain⟨ns,rfl⟩:=items_int h3;have hlen:ns.length<=n:=by
  unfold OpenLaw.pre at hc;have h4:(WTm.not (.lt (.lit (.int (n:Int))) (.len (.arg 0)))).holds [] { args:=[.list (ns.map .int)] }=true:=by
   have h4:=(holds_andW hc).1;rw[hn]at h4;exact h4
  have h5:=condW_of h4 (w_not (w_lt w_lit (w_len_list (w_arg rfl))));rw[ce]at h5;refine Nat.le_of_not_lt λq=>?_
  have q':(n:Int)<((ns.length:Nat):Int):=by omega
  first
   |(rw[decide_eq_true q']at h5;exact absurd h5 (by decide))
   |(simp at h5;omega)
 cases hwl with
 |cons w1 w2=>
  cases w2;cases w1 with
  |list ho hall=>exact⟨_,_,ns,rfl,rfl,ho,iZ ns _ hall,hlen⟩
def um (l:OpenLaw)(args:List WData):l.row.toRowW.claim.post args (.bool true) args=true:=
 postW_of (r:=l.row.toRowW) (X:=(true ==true))
  (show WShape.has [] (.bool true) .bool=true by first|rfl|decide|simp[WShape.has,WShape.arms,WShape.armsAll])
  (show(WTm.eq .res (.lit (.bool true))).value [] { args:=args,res:=some (.bool true),after:=args }=some (.bool (true ==true)) from w_eq_bool (w_res rfl) w_lit) rfl
def pR {n:Nat}{q:Program}{loose:List Str}{XP:(Str->Option Value)->Heap->Prop}{YP:World->Heap->Prop}{d:DefRec}
  (hn:l.most=some n) (hdf:d.params.defaults=[])
  (call:∀ (w:World) (s₀ s₁:Shared) (mg mb:KH) (fa:Addr) (o:Obj) (pm cd doc:Value) (a:Addr) (vs:List Value) (ns:List Int),
   Ground q loose [] XP w s₀ mg mb s₁.heap->YP w s₁.heap->
   s₁.heap.get? fa=some o->o.data=.func (docDef d.name d.params d.body d.scope pm cd doc)->s₁.heap.CodeRec cd d.name->mg d.name=some (.ref fa)->
   s₁.heap.get? a=some { cls:=.type "list",data:=.seq vs.toArray }->IntsAre vs ns->ns.length<=n->s₁.gens=#[]->
   codeAny (model l.prog w) callerA (.call (.ref fa) ⟨[.ref a],[]⟩) (λr s'=>r=.ok (.ret (.bool true))/\OldK s₁.heap s'.heap/\s'.os=s₁.os/\AllBare s'.gens) s₁):
  WalkO q loose XP YP l.row.toRowW d [] (λf vs=>PySem.call f vs):=by
 intro w s₀ s₁ mg mb G Y fa o pm cd doc dV kV ho hd hcd hD hmg hg args vals as hpre hlay hrd hwl hlo;obtain rfl:dV=.none:=Dflts.none hD hdf;obtain rfl:kV=.none:=Dflts.noKw hD;obtain⟨a,vs,ns,rfl,rfl,hobj,hints,hlen⟩:=uQ hn hpre hwl;refine enter_call (codeAny_mono (call w s₀ s₁ mg mb fa o pm cd doc a vs ns G Y ho (fd_plain hd) hcd hmg hobj hints hlen hg) λr s' hq=>?_);obtain⟨rfl,h2,h3,h4⟩:=hq;exact⟨.inl ⟨.bool true,.bool true,[],rfl,λ_=>rfl,.bool true,um l _,λ_=>⟨List.Pairwise.nil,λ_ hm=>(nomatch hm)⟩⟩,h2,h3,h4⟩
section
variable {prog:Program}{w:World}{A:Around}{E:KD}{s:Shared}{K:Frag}
end
end Att
namespace L2
open PySem PySem.Spec PyProof.Rows
def lL:∀ {vs:List Value}{ns:List Int},IntsAre vs ns->Vals (ns.map V.int) vs
 |_,_,.nil=>.nil
 |_,_,.cons n t h=>.cons ⟨t,rfl⟩ (lL h)
abbrev DI (H:Hp):Prop:=∀ b,H b=none\/∃ o xs,H b=some (.iY o (.lst xs))
def ya {P:Program}{w:World}{K:W.Frag}{mg mb:KH}{CX:rK}{k:Nat}{fa a:Addr}{fd:FuncData}{x:Str}{sp:Sp}{s₁:Shared}{vs:List Value}{ns:List Int}
  (KX:K.In s₁.heap) (hns:s₁.heap.Ns mainGlobals mg) (hb:s₁.heap.Ns builtinsNs mb) (hbb:∀ x:Str,x≠"__name__"->mb x=bootBuiltins x) (hlim:s₁.heap.NoLimit) (hg:s₁.gens=#[])
  (ha:s₁.heap.get? a=some { cls:=.type "list",data:=.seq vs.toArray }) (hi:IntsAre vs ns) (hl:ns.length<=bn) (hr:bI k callerA)
  (F:∀ base:Heap,K.In base->base.Ns mainGlobals mg->cM P w K mg base CX k fa fd [x] sp) (hbind:∀ (s:Shared) (u:Value),BindsTo s fd ⟨[u],[]⟩ [(x,u)])
  (hsp:∀ H:Hp,DI H->aY K H a (ns.map V.int)->sp [.ref a] H (λv _=>v=.bl true) λ_ _=>False)
  (hCX:∀ H e s',CX [] H s₁ (λ_ _=>False) e s'->False):
  codeAny (model P w) callerA (.call (.ref fa) ⟨[.ref a],[]⟩) (λr s'=>r=.ok (.ret (.bool true))/\OldK s₁.heap s'.heap/\s'.os=s₁.os/\AllBare s'.gens) s₁:=by
 have rv:=lL hi;have lenV:=hi.length;have core:∀ H:Hp,DI H->aY K H a (ns.map V.int)->fu P w H s₁.heap->(∀ b,H b≠none->b=a)->(H a≠none->K.lookup a=none)->
   codeAny (model P w) callerA (.call (.ref fa) ⟨[.ref a],[]⟩) (λr s'=>r=.ok (.ret (.bool true))/\OldK s₁.heap s'.heap/\s'.os=s₁.os/\AllBare s'.gens) s₁:=by
  intro H hO hS hok hA hK;have base_of:∀ {b:Addr}{o:Obj},s₁.heap.get? b=some o->H b=none->(lS s₁.heap H).get? b=some o:=λe n=>xf e n
  have noA:∀ {b:Addr}{o:Obj}{es:Array DictEntry}{ep:Nat},s₁.heap.get? b=some o->o.data=.dict es ep->H b=none:=λ{b o es ep} e d=>by
   cases q:H b with
   |none=>rfl
   |some u=>
    have e':b=a:=hA b (by rw[q];simp);subst e';rw[ha]at e;cases e;have d':Data.seq vs.toArray _=Data.dict es ep:=d;cases d'
  have nsK:∀ {b:Addr}{m:KH},s₁.heap.Ns b m->(lS s₁.heap H).Ns b m:=λ{b m} ⟨o,es,ep,e,d,r⟩=>⟨o,es,ep,base_of e (noA e d),d,r⟩
  have hKb:K.In (lS s₁.heap H):=λb o e=>base_of (KX b o e) (by
   cases q:H b with
   |none=>rfl
   |some u=>
    have e':b=a:=hA b (by rw[q];simp);subst e';rw[hK (by rw[q];simp)]at e;cases e)
  have hM:Mod K mg (lS s₁.heap H):=⟨hKb,nsK hns,⟨mb,nsK hb,hbb⟩,let⟨mc,h1,h2⟩:=hlim;⟨mc,nsK h1,h2⟩⟩;have e0:rC P w K mg (lS s₁.heap H) callerA [] s₁ H:=⟨rfl,hM,λb o e=>AE e,Nat.le_of_eq (uk _ _),trivial,λb hb=>absurd (show b ∈ ([]:List Addr) from hb) (by simp),hok,.of_eq hg⟩;refine codeAny_mono ((F _ hKb (nsK hns)).run callerA [] s₁ H ⟨[.ref a],[]⟩ [.ref a] [.ref a] _ _ hr e0 (hbind s₁ (.ref a)) (.cons rfl .nil) (hsp H hO hS)) λr s' h=>?_
  cases r with
  |error e=>exact(hCX H e s' h).elim
  |ok fl=>
   cases fl with
   |next=>exact False.elim h
   |brk=>exact False.elim h
   |cont=>exact False.elim h
   |ret u=>
    obtain⟨v,H',os,bare,un,hok',r',q⟩:=h;have q':v=.bl true:=q;subst q';obtain rfl:u=Value.bool true:=r';refine⟨rfl,OldK.of_keep λb o e=>?_,os,bare⟩;cases q:H b with
    |none=>exact un.keep b o e q (by intro z;exact absurd (show b ∈ ([]:List Addr) from z) (by simp)) (by simp)
    |some u=>
     rcases hO b with z|⟨ob,xs,z⟩
     .rw[q]at z;cases z
     .have z2:=un.frzs b ob _ z;obtain⟨e1,_⟩:=hok b _ z;obtain⟨e2,_⟩:=hok' b _ z2;rw[e]at e1;cases e1;exact e2
 cases hk:K.lookup a with
 |some o=>
  have e:=KX a o hk;rw[ha]at e;cases e;refine core (λ_=>none) (λ_=>.inl rfl) (.inr ⟨_,vs.toArray,_,hk,rfl,rfl,rfl,by rw[ge,lenV];exact hl,by simpa using rv⟩) (λb u z=>by have z':(none:Option HO)=some u:=z;cases z') (λb z=>absurd rfl z) λz=>absurd rfl z
 |none=>
  refine core (λb=>if b=a then some (.iY { cls:=.type "list",data:=.seq vs.toArray } (.lst (ns.map V.int))) else none) (λb=>?_) (.inl (.inr ⟨{ cls:=.type "list",data:=.seq vs.toArray },if_pos rfl⟩)) (λb u z=>?_) (λb z=>?_) λ_=>hk
  .by_cases hb:b=a
   .exact .inr ⟨_,_,if_pos hb⟩
   .exact .inl (if_neg hb)
  .by_cases hb:b=a
   .have z':=(if_pos hb).symm.trans z;cases z';subst hb;exact⟨ha,by rw[ce];exact hl,vs,_,rv,ha⟩
   .have z':=(if_neg hb).symm.trans z;cases z'
  .by_cases hb:b=a
   .exact hb
   .exact absurd (if_neg hb) z
def zV {l:W.OpenLaw}{n k:Nat}{q:Program}{loose:List Str}{XP:(Str->Option Value)->Heap->Prop}{YP:World->Heap->Prop}{d:DefRec}{K:Params->W.Frag}{CX:World->rK}{sp:World->Sp}{x:Str}
  (hn:l.most=some n) (hn2:n<=bn) (hdf:d.params.defaults=[]) (hr:bI k callerA)
  (hY:∀ (w:World) (h:Heap),YP w h->(K w.params).In h)
  (F:∀ (w:World) (mg:KH) (fa:Addr) (h:Heap),(K w.params).In h->h.Ns mainGlobals mg->mg d.name=some (.ref fa)->
   ∃ fd:FuncData,(∀ (s:Shared) (u:Value),BindsTo s fd ⟨[u],[]⟩ [(x,u)])/\
    ∀ base:Heap,(K w.params).In base->base.Ns mainGlobals mg->cM l.prog w (K w.params) mg base (CX w) k fa fd [x] (sp w))
  (hsp:∀ (w:World) (H:Hp) (a:Addr) (ns:List Int),ns.length<=n->DI H->aY (K w.params) H a (ns.map V.int)->sp w [.ref a] H (λv _=>v=.bl true) λ_ _=>False)
  (hCX:∀ (w:World) (H:Hp) (s:Shared) (e:Value) (s':Shared),CX w [] H s (λ_ _=>False) e s'->False):
  W.WalkO q loose XP YP l.row.toRowW d [] (λf vs=>PySem.call f vs):=by
 refine Att.pR hn hdf λw s₀ s₁ mg mb fa o pm cd doc a vs ns G Y ho hd hcd hmg hobj hints hlen hg=>?_
 have KX:=hY w _ Y;obtain⟨fd,hb,hF⟩:=F w mg fa _ KX G.T.g hmg;exact ya KX G.T.g G.T.b G.T.builtins G.T.nolimit hg hobj hints (Nat.le_trans hlen hn2) hr hF hb (λH hO hS=>hsp w H a ns hlen hO hS) λH e s'=>hCX w H s₁ e s'
section
variable {P:Program}{w:World}{K:W.Frag}{mg:KH}{base:Heap}
end
def eg {n:Nat}(h:n<=1000):n<bn:=Nat.lt_of_le_of_lt h (by decide)
section
variable {X:Cx}
end
end L2
namespace L2
open PySem PySem.Spec PySem.W PyProof.Rows PySem.Builtin PySem.Builtin.ObjectAttr
variable {rs:List Addr}
section
variable {prog:Program}{w:World}{A:Around}{E:KD}{s:Shared}{K:W.Frag}{x C:Addr}{ox od:Obj}{name:Str}{expr:Bool}{v:Value}{Q:KD}
def n8:builtinKind "BaseException.__getattribute__"=some .slot:=by decide+kernel
def kY:splitId "BaseException.__getattribute__"=some ("BaseException","__getattribute__"):=by decide+kernel
def Be (X:K.In s.heap)(I:W.InstAt s.heap x ox C (some od))(hga:W.findIn K (.ref C) "__getattribute__"=some (some (.builtin "BaseException.__getattribute__"))) (hgn:W.findIn K (.ref C) "__getattr__"=some none)
  (hb:W.mroIn K C (.type "BaseException")=some true) (hf:W.findObj K C (some od) name=some (.value v)) (hh:W.handedIn v=true) (h:Q v { s with toks:=s.toks+1 }):
  wpAny (model prog w) A (getAttr (.ref x) name expr) Q E s:=by
 obtain⟨hp,g,d,t,os⟩:=s;have L0:=I.type (M:=model prog w);have L1:=looks_findIn (M:=model prog w) X hga;have L2':=looks_findIn (M:=model prog w) X hgn;have L3:=looks_find (M:=model prog w) X I hf;have L4:Looks (model prog w) hp (isInstance (.ref x) (.type "BaseException")) true:=I.type.andThen (looks_mroIn X hb);unfold getAttr getAttrBy;refine ad (wpAny_mkText (bd (ad (L0.at (ad (L1.at ?_))))));have e1:(Value.builtin "BaseException.__getattribute__" ==Value.builtin "object.__getattribute__")=false:=by decide+kernel
 dsimp only;rw[e1,Bool.and_false];show wpAny _ _ (getAttrByItsOwn _ _ _ _ _ _) _ _ _;unfold getAttrByItsOwn hookBefore;refine ad (L2'.at ?_);refine ad (wpAny_attempt (bd ?_));have e2:(expr&&onTheHeap (Value.builtin "BaseException.__getattribute__"))=false:=by cases expr<;>rfl
 unfold callGetattribute;rw[e2];show wpAny _ _ (boundAndCalled _ _ _) _ _ _;unfold boundAndCalled;rw[PySem.F.attr_ValueError.ga.bind];refine ad (am (wpAny_call (codeAny_call_builtin PySem.F.attr_ValueError.ga.plain PySem.F.entry_bexc_ga ?_)));refine @check_slot (model prog w) _ _ _ "BaseException.__getattribute__" "BaseException" "__getattribute__" (.ref x) [.str name t] [] _ n8 kY L4 (PySem.F.args_bexc_ga (.ref x) (.str name t)) ?_;unfold Builtin.«object.__getattribute__»;refine ad (am (ad (am (ad (L0.at (ad (L3.at ?_)))))));refine am ?_;show wpAny _ _ (handedOut v) _ _ _;rw[handedOut_of hh];exact am h
abbrev wN:Value->Bool
 | .ref _=>true
 |_=>false
abbrev bN:List Value:=[.type "ValueError",.type "Exception",.type "BaseException",.type "object"]
abbrev cY (l:List Value):Bool:=l.dropWhile wN ==bN
def c8:∀ {l:List Value},cY l=true->∃ rs:List Addr,l=rs.map Value.ref++bN
 | [],e=>by cases e
 |c::r,e=>by
  by_cases h:wN c=true
  .have e':cY r=true:=by
    unfold cY at e⊢;rw[List.dropWhile_cons_of_pos h]at e;exact e
   obtain⟨rs,q⟩:=c8 e';cases c with
   |ref a=>exact⟨a::rs,by rw[q];rfl⟩
   |_=>cases h
  .unfold cY at e;rw[List.dropWhile_cons_of_neg h]at e;exact⟨[],beq_iff_eq.mp e⟩
def jY (self:Value):∀ rs:List Addr,refuseLoop self "__setattr__" (rs.map Value.ref++bN)=pure ()
 | []=>PySem.F.store_ValueError.passes self
 |a::r=>by rw[map_cons,List.cons_append,refuseLoop_ref];exact jY self r
structure cz (K:W.Frag) (C:Addr):Prop where
 mt:W.typeIn K (.ref C)=some (.type "type")
 ov:(W.clsIn K C).any (λcd=>cY cd.mro)=true
 hd:W.hasDictIn K C=true
 ga:W.findIn K (.ref C) "__getattribute__"=some (some (.builtin "BaseException.__getattribute__"))
 gn:W.findIn K (.ref C) "__getattr__"=some none
 sa:W.findIn K (.ref C) "__setattr__"=some (some (.builtin "object.__setattr__"))
def cz.mro (c:cz K C):∃ (cd:ClassData) (rs:List Addr),W.clsIn K C=some cd/\cd.mro=rs.map Value.ref++bN:=by
 obtain⟨cd,h1,h2⟩:=W.any_some c.ov;obtain⟨rs,h3⟩:=c8 h2;exact⟨cd,rs,h1,h3⟩
def pJ (h:bN.contains v=true):(rs.map Value.ref++bN).contains v=true:=by
 rw[List.contains_eq_mem,decide_eq_true_eq]at h⊢;exact ii _ h
def sJ:(rs.map Value.ref++bN).isEmpty=false:=by cases rs<;>rfl
def cz.sub (c:cz K C)(h:bN.contains v=true):W.mroIn K C v=some true:=by
 obtain⟨cd,rs,h1,h2⟩:=c.mro;unfold W.mroIn;rw[h1,Option.bind_some,h2,if_neg (by rw[sJ];decide),pJ h]
variable {R:Result->Shared->Prop}
def pE {tk:Tok}{odo:Option Obj}(X:K.In s.heap)(I:W.InstAt s.heap x ox C odo)(c:cz K C)(ht:W.findIn K (.ref C) name=some none)
  (h:wpAny (model prog w) A.in1 (storeInOwnDict (.ref x) (.ref C) (.str name tk) name v false)
   (λfin s'=>match fin with| .done f=>R (.ok f) s'| .again c'=>c'.quiet=true/\codeAny (model prog w) A c' R s') (λe s'=>R (.error e) s') s):
  codeAny (model prog w) A (.call (.builtin "object.__setattr__") ⟨[.ref x,.str name tk,v],[]⟩) R s:=by
 have SF:=PySem.F.store_object;obtain⟨cd,rs,hc,hm⟩:=c.mro;have sub:Looks (model prog w) s.heap (isInstance (.ref x) (.type "object")) true:=I.type.andThen (looks_mroIn X (c.sub (by decide+kernel)));refine codeAny_call_builtin SF.slot.plain SF.entry (@check_slot (model prog w) _ _ s "object.__setattr__" "object" "__setattr__" (.ref x) [.str name tk,v] [] _ SF.kind SF.split sub (SF.args (.ref x) (.str name tk) v) ?_);have hl:Looks (model prog w) s.heap (mroOf (.ref C)) cd.mro:=(looks_clsIn X hc).andThen .now;rw[osa_eq,refuse_eq];refine ad (ad (I.type.here (ad (hl.here ?_))));rw[hm,jY];refine am (ad (I.type.here (ad ((looks_findIn X ht).here (ad (am ?_))))));exact h
end
variable {Q:KD}{u:Value}
section
variable {X:Cx}{Y:KG}{U:St}{H:Hp}{s:Shared}{a C dx:Addr}{fs:List (Str×V)}{f:Str}{v:V}{A:Around}{E:KD}{fr:Bool}
def uT {b:Bool}(I:Inv X Y U H s)(e:H a=some (.exc C (some dx) fs fr))(c:cz X.K C)(n:d6 X.K C f)(l:fs.lookup f=some v)
  (h:∀ u s',Inv X Y U H s'->RelV v u->Q u s'):wpAny (model X.prog X.w) A (getAttr (.ref a) f b) Q E s:=by
 obtain⟨⟨vs,ho,_⟩,z⟩:=I.hok a _ e;rcases z with⟨z,_⟩|⟨d,ed,_,_,_,mA,hn,r,_⟩
 .cases z
 cases ed;obtain⟨u,hu,ru⟩:=cP.some_of (v:=v) (o:=mA f) (by rw[<-l];exact r f);obtain⟨od,hod,hl⟩:=gG hn;refine Be (ox:={ cls:=.ref C,dict:=some dx,data:=.fields vs }) (od:=od) I.bO ⟨ho,rfl,rfl,hod⟩ c.ga c.gn (c.sub (by decide+kernel)) (W.findObj_own c.hd n rfl (by rw[hl,hu])) (lM ru) (h u _ (I.tok _) ru)
def rD {y:V}{Q:KC}(I:Inv X Y U H s)(e:H a=some (.exc C (some dx) fs fr))(c:cz X.K C)(n:d6 X.K C f)(hl:fs.length<1000)(ry:RelV y u)
  (h:∀ s',Inv X Y U (upd H a (.exc C (some dx) (cA f y fs) fr)) s'->Q () s'):wpAny (model X.prog X.w) A (setAttr (.ref a) f u) Q E s:=by
 obtain⟨⟨vs,ho,zz⟩,z⟩:=id (I.hok a _ e);rcases z with⟨z,_⟩|⟨d,ed,hown,_,hne,mA,hn,r,wi⟩
 .cases z
 cases ed;obtain⟨od,hod,hlk⟩:=gG hn;have hz:(fs.map (·.1)).length<=bn:=by rw[ce,sizeLine_eq];omega
 have J:W.InstAt s.heap a { cls:=.ref C,dict:=some dx,data:=.fields vs } C (some od):=⟨ho,rfl,rfl,hod⟩;refine W.set_plain I.bO J c.sa (pE (s:={ s with toks:=s.toks+1 }) I.bO J c n ?_);obtain⟨cd,hc,hd'⟩:=W.any_some c.hd;refine ad (am (ad (ad (wpAny_loadPart ho (ad (W.Looks.here (s:={ s with toks:=s.toks+1 }) (W.looks_clsIn I.bO hc) ?_))))));rw[hd'];refine am (a:=some dx) (ad (am (ad ?_)));refine wpAny_nsSet1 (s:={ s with toks:=s.toks+1 }) hn λh' hn2 hs2=>?_
 obtain⟨oD,esD,epD,hoD,hdD,hcD⟩:=hn2.count (PySem.Within.cons f u wi);refine ad (wpAny_lookBehind hoD (by rw[hdD];exact pastItsLine_dict (Nat.le_trans hcD (by rw[length_cons];omega))) ?_);refine am (h _ ?_);refine I.write (x:=a) (e:=dx) (by rw[e];exact True.intro) (.inr hown) (λb q hb z=>(hs2.2 b hb).trans z) ⟨oD,hoD⟩ ?_;refine⟨⟨vs,(hs2.2 _ (Ne.symm hne)).trans ho,zz⟩,.inr ⟨dx,rfl,by rw[af hne];exact hown,?_,hne,_,hn2,λg=>?_,λg hg=>?_⟩⟩
 .have:=d4 f y fs;omega
 .show cP ((cA f y fs).lookup g) (if g=f then some u else mA g);rw[dy]
  by_cases q:g=f
  .rw[if_pos q,if_pos q];exact ry
  .rw[if_neg q,if_neg q];exact r g
 .by_cases q:g=f
  .rw[q];exact(cN f y fs).1
  .refine(cN f y fs).2 g (wi g λz=>hg ?_);show(if g=f then some u else mA g)=none;rw[if_neg q];exact z
def pX {y:V}{Q:KC}(I:Inv X Y U H s)(e:H a=some (.exc C none fs fr))(c:cz X.K C)(n:d6 X.K C f)(ry:RelV y u)
  (h:∀ d s',H d=none->Inv X Y U (upd (upd H d (.own a)) a (.exc C (some d) [(f,y)] fr)) s'->Q () s'):wpAny (model X.prog X.w) A (setAttr (.ref a) f u) Q E s:=by
 obtain⟨⟨vs,ho,zz⟩,z⟩:=id (I.hok a _ e);have hfs:fs=[]:=by
  rcases z with⟨_,z⟩|⟨d,ed,_⟩
  .exact z
  .cases ed
 subst hfs;have J:W.InstAt s.heap a { cls:=.ref C,dict:=none,data:=.fields vs } C none:=⟨ho,rfl,rfl,True.intro⟩;refine W.set_plain I.bO J c.sa (pE (s:={ s with toks:=s.toks+1 }) I.bO J c n ?_);obtain⟨cd,hc,hd'⟩:=W.any_some c.hd;refine ad (am (ad (ad (wpAny_loadPart ho (ad (W.Looks.here (s:={ s with toks:=s.toks+1 }) (W.looks_clsIn I.bO hc) ?_))))));rw[hd'];have hlt:=sK ho;have hxs:a≠s.heap.objs.size:=ol hlt;have ho1:(s.heap.push { cls:=.type "dict",data:=.dict #[] }).get? a=some { cls:=.ref C,dict:=none,data:=.fields vs }:=sw _ ho;refine ad (wpAny_alloc' ?_);refine ad (wpAny_update' ho1 ?_);refine am ?_;have hgd:((s.heap.push { cls:=.type "dict",data:=.dict #[] }).update a λo=>{ o with dict:=some s.heap.objs.size }).get? s.heap.objs.size=some { cls:=.type "dict",data:=.dict #[] }:=
  (Heap.get?_update_ne _ _ _ _ hxs.symm).trans (Heap.get?_push_at rfl rfl)
 have hga:((s.heap.push { cls:=.type "dict",data:=.dict #[] }).update a λo=>{ o with dict:=some s.heap.objs.size }).get? a=some { cls:=.ref C,dict:=some s.heap.objs.size,data:=.fields vs }:=
  Heap.get?_update_self _ ho1 rfl
 have hnd:((s.heap.push { cls:=.type "dict",data:=.dict #[] }).update a λo=>{ o with dict:=some s.heap.objs.size }).Ns s.heap.objs.size (λ_=>none):=
  ⟨_,#[],_,hgd,rfl,λe he=>absurd he (by simp),λ_=>rfl⟩
 show wpAny _ _ (storeInDict s.heap.objs.size (.str f _) f u) _ _ _;unfold storeInDict newKeyGuard;refine ad (am (ad (wpAny_nsSet1 (Heap.Ns1.of_empty hnd) λh' hn2 hs2=>?_)));obtain⟨oD,esD,epD,hoD,hdD,hcD⟩:=hn2.count (PySem.Within.cons f u PySem.Within.nil);refine ad (wpAny_lookBehind hoD (by rw[hdD];exact pastItsLine_dict (Nat.le_trans hcD (by rw[length_cons,length_nil,sizeLine_eq];omega))) ?_);have hd0:H s.heap.objs.size=none:=I.hok.fresh (pc _);refine am (h s.heap.objs.size _ hd0 ?_);have e':upd H s.heap.objs.size (.own a) a=some (.exc C none [] fr):=by rw[af hxs];exact e
 have I1:Inv X Y U (upd H s.heap.objs.size (.own a)) { s with heap:=s.heap.push { cls:=.type "dict",data:=.dict #[] },toks:=s.toks+1 }:=
  I.laid (a:=s.heap.objs.size) (o:=.own a) (t':=s.toks+1) (λb u q=>sw _ q) (pc _) ⟨_,tz s.heap rfl⟩
 have I2:=I1.write (x:=a) (e:=a) (o:=.exc C (some s.heap.objs.size) [] fr) (t':=s.toks+1) (h':=(s.heap.push { cls:=.type "dict",data:=.dict #[] }).update a λo=>{ o with dict:=some s.heap.objs.size })
  (by rw[e'];exact True.intro) (.inl rfl) (λb q hb z=>(Heap.get?_update_ne _ _ _ _ hb).trans z) ⟨_,hga⟩
  ⟨⟨vs,hga,zz⟩,.inr ⟨_,rfl,by rw[af hxs.symm,av],Nat.zero_le _,hxs.symm,_,Heap.Ns1.of_empty hnd,λ_=>True.intro,λy hy=>absurd rfl hy⟩⟩
 have ga':h'.get? a=some { cls:=.ref C,dict:=some s.heap.objs.size,data:=.fields vs }:=(hs2.2 a hxs).trans hga;have I3:=I2.write (x:=a) (e:=s.heap.objs.size) (o:=.exc C (some s.heap.objs.size) [(f,y)] fr) (t':=s.toks+1+1) (h':=h') (by rw[av];exact True.intro) (.inr (by rw[af hxs.symm,av]))
  (λb q hb z=>(hs2.2 b hb).trans z) ⟨oD,hoD⟩
  ⟨⟨vs,ga',zz⟩,.inr ⟨_,rfl,by rw[af hxs.symm,af hxs.symm,av],by show 1<=1000;decide,hxs.symm,_,hn2,λg=>?_,λg hg=>?_⟩⟩
 .rw[Ay]at I3;exact I3
 .show cP (List.lookup g [(f,y)]) (if g=f then some u else none)
  by_cases q:g=f
  .have hb:(g ==f)=true:=beq_iff_eq.mpr q;simp only[List.lookup,hb,if_pos q];exact ry
  .have hb:(g ==f)=false:=beq_eq_false_iff_ne.mpr q;simp only[List.lookup,hb,if_neg q];exact True.intro
 .by_cases q:g=f
  .rw[q];simp
  .exact absurd (show(if g=f then some u else none)=none by rw[if_neg q]) hg
end
section
variable {X:Cx}{Y:KG}{U:St}{H:Hp}{s:Shared}{a C:Addr}{dx:Option Addr}{fs:List (Str×V)}{f:Str}{v:V}{A:Around}{E:KD}{fr:Bool}
def Inv.fields {vs':Array Value}{h':Heap}{t':Nat}(I:Inv X Y U H s)(e:H a=some (.exc C dx fs fr))(hs:vs'.size=6)(h1:fr=true->vs'[1]? =some Value.none)
  (ha:h'.get? a=some { cls:=.ref C,dict:=dx,data:=.fields vs' }) (k:∀ b u,b≠a->s.heap.get? b=some u->h'.get? b=some u):Inv X Y U H { s with heap:=h',toks:=t' }:=by
 have I2:=I.write (x:=a) (e:=a) (o:=.exc C dx fs fr) (t':=t') (h':=h') (by rw[e];exact True.intro) (.inl rfl) k ⟨_,ha⟩ ?_
 .have:upd H a (.exc C dx fs fr)=H:=by
   funext b
   by_cases hb:b=a
   .rw[hb,av,e]
   .rw[af hb]
  rw[this]at I2;exact I2
 .obtain⟨_,z⟩:=id (I.hok a _ e);refine⟨⟨vs',ha,hs,h1⟩,?_⟩;rcases z with z|⟨d,ed,d1,z1,ne,mA,⟨od,es,ep,e2,c⟩,r⟩
  .exact .inl z
  .exact .inr ⟨d,ed,by rw[af ne];exact d1,z1,ne,mA,⟨od,es,ep,k _ _ ne e2,c⟩,r⟩
def jA {R:Result->Shared->Prop}(I:Inv X Y U H s)(e:H a=some (.exc C dx fs fr))(c:cz X.K C)
  (h:∀ s',Inv X Y U H s'->R (.ok (.ret .none)) s'):codeAny (model X.prog X.w) A (.call (.builtin "ValueError.__init__") ⟨[.ref a,u],[]⟩) R s:=by
 have F:=PySem.F.excCall_ValueError;obtain⟨⟨vs,ho,hsz,h1⟩,z⟩:=id (I.hok a _ e);have L4:Looks (model X.prog X.w) s.heap (isInstance (.ref a) (.type "ValueError")) true:=(show Looks (model X.prog X.w) s.heap (typeOf (.ref a)) (.ref C) from(Looks.ld ho).andThen .now).andThen (looks_mroIn I.bO (c.sub (by decide+kernel)));refine codeAny_call_builtin F.init.plain F.initEntry ?_;simp only[checkBuiltinCall,F.initKind,F.initSplit,F.initRow];refine ad (L4.here ?_);simp only[Bool.not_true,Bool.false_eq_true,if_false];have hshort:("ValueError" != "*")=true:=by decide
 have h0:∃ a0,vs[0]? =some a0:=⟨_,Array.getElem?_eq_getElem nofun⟩;obtain⟨a0,h0⟩:=h0;obtain⟨hp,g,d,t,os⟩:=s;unfold Bind.checkArgs;have hn:Looks (model X.prog X.w) hp (typeOf (.ref a)) (.ref C):=(Looks.ld ho).andThen .now;obtain⟨cd,rs,hcl,_⟩:=c.mro;obtain⟨oc,od,sl,hC⟩:∃ oc od sl,hp.get? C=some ⟨oc,od,.cls cd,sl⟩:=by
  unfold W.clsIn at hcl
  split at hcl
  .rename_i ho';cases hcl;exact⟨_,_,_,I.bO _ _ ho'⟩
  .cases hcl
 repeat(first|with_reducible refine wpAny_load hC ?_|wp_step)
 rw[h0];have ho1:(hp.push { cls:=.type "tuple",data:=.seq #[u] }).get? a=some { cls:=.ref C,dict:=dx,data:=.fields vs }:=sw _ ho;have hq:=Heap.get?_update_self (Obj.mapFields (·.setIfInBounds 0 (.ref hp.objs.size))) ho1 (Obj.isFreed_of_fields (Obj.data_mapFields rfl _));have fin:R (.ok (.ret Value.none)) ⟨(hp.push { cls:=.type "tuple",data:=.seq #[u] }).update a (Obj.mapFields (·.setIfInBounds 0 (.ref hp.objs.size))),g,d,t,os⟩:=by
  refine h _ (I.fields (vs':=vs.setIfInBounds 0 (.ref hp.objs.size)) (t':=t) e (by simpa using hsz) (λz=>?_) hq λb q hb z'=>?_)
  .rw[Array.getElem?_setIfInBounds_ne (by decide)];exact h1 z
  .exact(Heap.get?_update_ne _ _ _ _ hb).trans (sw _ z')
 refine am (ad (wpAny_setField ho1 rfl nofun ?_));cases a0<;>first|exact am (am fin)|exact wpAny_letGo (am fin)
def qd (I:Inv X Y U H s)(e:H a=some (.exc C dx fs fr))(c:cz X.K C)
  (h:∀ s',Inv X Y U H s'->Q .none s'):wpAny (model X.prog X.w) A (call (.builtin "ValueError.__init__") [.ref a,u]) Q E s:=wpAny_call (jA I e c h)
end
abbrev bR (K:W.Frag)(C:Addr):Bool:=match K.lookup C with
 |some ⟨_,_,.cls cd,sl⟩=>!cd.abstract&& !cd.hasDel&&(sl.toList[4]?).join ==some (.builtin "ValueError.__new__")&&cY cd.mro&&cd.mro.contains (.ref C)&&
   W.specialIn K (.ref C) "__call__" ==some (some (.builtin "type.__call__"))&&W.instIn K (.ref C) (.type "type") ==some true
 |_=>false
structure wt (M:Model) (h:Heap) (C:Addr):Prop where
 obj:∃ oc od cd sl,h.get? C=some ⟨oc,od,.cls cd,sl⟩/\cd.abstract=false/\cd.hasDel=false/\cd.mro.isEmpty=false
 made:W.Looks M h (Bind.madeBy (.ref C)) (some "ValueError.__new__")
 base:W.Looks M h (Bind.staticBase (.ref C)) (.ref C)
 self:W.Looks M h (isSubtype (.ref C) (.ref C)) true
 top:W.Looks M h (isSubtype (.ref C) (.type "ValueError")) true
 no1:W.Looks M h (isSubtype (.ref C) (.type "AttributeError")) false
 no2:W.Looks M h (isSubtype (.ref C) (.type "NameError")) false
 call:W.Looks M h (specialOf (.ref C) "__call__") (some (.builtin "type.__call__"))
 typ:W.Looks M h (isInstance (.ref C) (.type "type")) true
def rX {n:String}(h:bN.contains (.type n)=false):(rs.map Value.ref++bN).contains (.type n)=false:=by
 induction rs with
 |nil=>exact h
 |cons a r ih=>rw[map_cons,List.cons_append,List.contains_cons,ih];rfl
def k9 {K:W.Frag}{M:Model}{h:Heap}(X:K.In h){C:Addr}(e:bR K C=true):wt M h C:=by
 unfold bR at e
 split at e
 .rename_i oc od cd sl ho;simp only[lw,Bool.not_eq_true',beq_iff_eq]at e;obtain⟨⟨⟨⟨⟨⟨e1,e2⟩,e3⟩,e4⟩,e5⟩,e7⟩,e8⟩:=e;obtain⟨rs,em⟩:=c8 e4;have hc:W.clsIn K C=some cd:=by unfold W.clsIn;rw[ho]
  have hm:Looks M h (mroOf (.ref C)) cd.mro:=(looks_clsIn X hc).andThen .now;have ne:cd.mro.isEmpty=false:=by rw[em];exact sJ
  obtain⟨c,l,hl⟩:∃ c l,cd.mro=c::l:=by
   cases q:cd.mro with
   |nil=>rw[q]at ne;cases ne
   |cons c l=>exact⟨c,l,rfl⟩
  have made:Looks M h (Bind.madeBy (.ref C)) (some "ValueError.__new__"):=by
   intro A Q E s k q;unfold Bind.madeBy;refine ad (hm A _ E s k ?_);rw[hl,forIn_cons];refine ad (ad (ad (ad (wpAny_loadPart (k _ _ (X _ _ ho)) (am ?_)))));dsimp only;rw[<-Array.getElem?_toList,e3];exact am (am (am q))
  have mro:∀ {v b},cd.mro.contains v=b->W.mroIn K C v=some b:=λ{v b} q=>by
   unfold W.mroIn;rw[hc,Option.bind_some,if_neg (by rw[ne];decide),q]
  refine⟨⟨oc,od,cd,sl,X _ _ ho,e1,e2,ne⟩,made,?_,looks_mroIn X (mro e5),looks_mroIn X (mro (by rw[em];exact pJ (by decide+kernel))),looks_mroIn X (mro (by rw[em];exact rX (by decide+kernel))),looks_mroIn X (mro (by rw[em];exact rX (by decide+kernel))),looks_specialIn X e7,looks_instIn X e8⟩;intro A Q E s k q;unfold Bind.staticBase;refine ad (hm A _ E s k ?_);rw[hl,forIn_cons];exact ad (ad (ad (made A _ E s k (am (am (am q))))))
 .cases e
variable {rest:List Value}
section
variable {prog:Program}{w:World}{A:Around}{K:W.Frag}{C:Addr}{R:Result->Shared->Prop}{h:Heap}{g:Array GenState}{d:Drawn}{t:Nat}{os:OsState}
def By (Y:wt (model prog w) h C)(hz:rest.length<=bn)
  (hq:R (.ok (.ret (.ref (h.objs.size+1)))) ⟨(h.push { cls:=.type "tuple",data:=.seq rest.toArray }).push { cls:=.ref C,data:=.fields #[.ref h.objs.size,.none,.none,.none,.bool false,.none] },g,d,t,os⟩):
  codeAny (model prog w) A (.call (.builtin "ValueError.__new__") ⟨.ref C::rest,[]⟩) R ⟨h,g,d,t,os⟩:=by
 obtain⟨⟨oc,od,cd,sl,hC,e1,e2,e4⟩,made,base,self,top,no1,no2,call,typ⟩:=Y;have F:=PySem.F.excBase_ValueError;have here:Looks (model prog w) h (Bind.madeHere "BaseException.__new__" (.ref C)) ():=base.andThen (made.andThen (Looks.of_pure (by simp only[Option.map_some,F.canon,bne_self_eq_false,Bool.false_eq_true,if_false])));refine codeAny_call_builtin_code (Code.quiet_builtin _ F.quiet) ?_;simp only[checkBuiltinCall,F.newKind,F.newSplit,F.newRow]
 repeat(first|simp only[bne_self_eq_false,Bool.false_eq_true,if_false]|lk)
 refine codeAny_builtinAt F.entry ?_;unfold Builtin.«BaseException.__new__»;refine PySem.wpAt_bind ?_;show PySem.wpAt _ _ _ (stack >>= _) _ _ _;refine PySem.wpAt_bind (PySem.wpAt_stack λp below=>PySem.wpAt_of_wpAny ?_);have hends:=F.ends
 wp_walk
 refine PySem.wpAt_of_wpAny ?_;rw[F.owner]
 repeat(first|simp only[Bool.not_true,Bool.false_eq_true,if_false]|lk)
 rw[if_neg (show ¬ (rest.toArray.size>bn) by rw[ge];omega)];unfold newObjAsIs;refine ad (wpAny_alloc (am (ad ?_)));show wpAny _ _ (newObjAsIs _ _ _) _ _ _;unfold newObjAsIs classHasDel;refine ad (wpAny_alloc (ad (ad (wpAny_load (sw _ (sw _ hC)) (am ?_)))));rw[e2];refine am (am ?_);show R _ _;rw[Heap.size_push];exact hq
def C2 {fI:Addr}(X:K.In h)(hz:rest.length<=bn)(hm:bR K C=true)(hi:W.findIn K (.ref C) "__init__"=some (some (.ref fI))) (hf:W.typeIn K (.ref fI)=some (.type "function"))
  (hq:codeAny (model prog w) (A.under (.builtin "type.__call__" ⟨.ref C::rest,[]⟩)) (.call (.ref fI) ⟨.ref (h.objs.size+1)::rest,[]⟩) (InitBack (h.objs.size+1) R)
   ⟨(h.push { cls:=.type "tuple",data:=.seq rest.toArray }).push { cls:=.ref C,data:=.fields #[.ref h.objs.size,.none,.none,.none,.bool false,.none] },g,d,t,os⟩):
  codeAny (model prog w) A (.call (.ref C) ⟨rest,[]⟩) R ⟨h,g,d,t,os⟩:=by
 have Y:=k9 (M:=model prog w) X hm;have Y':=Y;obtain⟨⟨oc,od,cd,sl,hC,e1,e2,e4⟩,made,base,self,top,no1,no2,call,typ⟩:=Y;refine codeAny_of_tree ?_;show wpAny _ _ (callAny (.ref C) _) _ _ _;refine nd_load hC ?_;show wpAny _ _ (callAny.viaDunder (.ref C) _) _ _ _;unfold callAny.viaDunder;refine ad (call.at ?_);dsimp only;rw[tc_bind];refine ad (am (ad (am ?_)));refine am (a:=Fin.again (.call (.builtin "type.__call__") ⟨.ref C::rest,[]⟩)) (And.intro rfl ?_);refine codeAny_call_builtin_at (Code.quiet_builtin _ (by decide+kernel)) entry_typeCall (check_slot tc_kind tc_split typ (tc_args _ _ _) ?_);unfold Builtin.«type.__call__»;have hmr:Looks (model prog w) h (mroOf (.ref C)) cd.mro:=((Looks.ld (part:=none) hC).andThen .now).andThen .now
 repeat(first|simp only[e4,Bool.false_eq_true,if_false]|with_reducible refine wpAny_call ?_|lk)
 refine By Y' hz ?_;have k:∀ b o,h.get? b=some o->((h.push { cls:=.type "tuple",data:=.seq rest.toArray }).push { cls:=.ref C,data:=.fields #[.ref h.objs.size,.none,.none,.none,.bool false,.none] }).get? b=some o:=λb o e=>sw _ (sw _ e)
 have hx:((h.push { cls:=.type "tuple",data:=.seq rest.toArray }).push { cls:=.ref C,data:=.fields #[.ref h.objs.size,.none,.none,.none,.bool false,.none] }).get? (h.objs.size+1)=some { cls:=.ref C,data:=.fields #[.ref h.objs.size,.none,.none,.none,.bool false,.none] }:=by heap_get
 have t1:Looks (model prog w) ((h.push { cls:=.type "tuple",data:=.seq rest.toArray }).push { cls:=.ref C,data:=.fields #[.ref h.objs.size,.none,.none,.none,.bool false,.none] }) (typeOf (.ref (h.objs.size+1))) (.ref C):=(Looks.ld hx).andThen .now;have s1:=self.keeps k;have i1:=(looks_findIn (M:=model prog w) X hi).keeps k;have b1:=(bind_fn (M:=model prog w) X (.ref (h.objs.size+1)) hf).keeps k;unfold isInstance callSpecial? specialOf
 repeat(first|with_reducible refine wpAny_call ?_|lk)
 refine codeAny_mono hq λr s' z=>?_
 rcases r with e|(v|_|_|_)<;>first|exact z|exact z.elim|skip
 obtain⟨rfl,z⟩:=z;exact am (am z)
def zX (X:K.In h)(hz:rest.length<=bn)(hm:bR K C=true)(hi:W.findIn K (.ref C) "__init__"=some (some (.builtin "ValueError.__init__")))
  (hq:codeAny (model prog w) (A.under (.builtin "type.__call__" ⟨.ref C::rest,[]⟩)) (.call (.builtin "ValueError.__init__") ⟨.ref (h.objs.size+1)::rest,[]⟩) (InitBack (h.objs.size+1) R)
   ⟨(h.push { cls:=.type "tuple",data:=.seq rest.toArray }).push { cls:=.ref C,data:=.fields #[.ref h.objs.size,.none,.none,.none,.bool false,.none] },g,d,t,os⟩):
  codeAny (model prog w) A (.call (.ref C) ⟨rest,[]⟩) R ⟨h,g,d,t,os⟩:=by
 have Y:=k9 (M:=model prog w) X hm;have Y':=Y;obtain⟨⟨oc,od,cd,sl,hC,e1,e2,e4⟩,made,base,self,top,no1,no2,call,typ⟩:=Y;refine codeAny_of_tree ?_;show wpAny _ _ (callAny (.ref C) _) _ _ _;refine nd_load hC ?_;show wpAny _ _ (callAny.viaDunder (.ref C) _) _ _ _;unfold callAny.viaDunder;refine ad (call.at ?_);dsimp only;rw[tc_bind];refine ad (am (ad (am ?_)));refine am (a:=Fin.again (.call (.builtin "type.__call__") ⟨.ref C::rest,[]⟩)) (And.intro rfl ?_);refine codeAny_call_builtin_at (Code.quiet_builtin _ (by decide+kernel)) entry_typeCall (check_slot tc_kind tc_split typ (tc_args _ _ _) ?_);unfold Builtin.«type.__call__»;have hmr:Looks (model prog w) h (mroOf (.ref C)) cd.mro:=((Looks.ld (part:=none) hC).andThen .now).andThen .now
 repeat(first|simp only[e4,Bool.false_eq_true,if_false]|with_reducible refine wpAny_call ?_|lk)
 refine By Y' hz ?_;have k:∀ b o,h.get? b=some o->((h.push { cls:=.type "tuple",data:=.seq rest.toArray }).push { cls:=.ref C,data:=.fields #[.ref h.objs.size,.none,.none,.none,.bool false,.none] }).get? b=some o:=λb o e=>sw _ (sw _ e)
 have hx:((h.push { cls:=.type "tuple",data:=.seq rest.toArray }).push { cls:=.ref C,data:=.fields #[.ref h.objs.size,.none,.none,.none,.bool false,.none] }).get? (h.objs.size+1)=some { cls:=.ref C,data:=.fields #[.ref h.objs.size,.none,.none,.none,.bool false,.none] }:=by heap_get
 have t1:Looks (model prog w) ((h.push { cls:=.type "tuple",data:=.seq rest.toArray }).push { cls:=.ref C,data:=.fields #[.ref h.objs.size,.none,.none,.none,.bool false,.none] }) (typeOf (.ref (h.objs.size+1))) (.ref C):=(Looks.ld hx).andThen .now;have s1:=self.keeps k;have i1:=(looks_findIn (M:=model prog w) X hi).keeps k;have b1:Looks (model prog w) ((h.push { cls:=.type "tuple",data:=.seq rest.toArray }).push { cls:=.ref C,data:=.fields #[.ref h.objs.size,.none,.none,.none,.bool false,.none] }) (bindSpecial (.builtin "ValueError.__init__") (.ref (h.objs.size+1))) (.builtin "ValueError.__init__",[.ref (h.objs.size+1)]):=Looks.of_pure (PySem.F.excCall_ValueError.init.bind _);unfold isInstance callSpecial? specialOf
 repeat(first|with_reducible refine wpAny_call ?_|lk)
 refine codeAny_mono hq λr s' z=>?_
 rcases r with e|(v|_|_|_)<;>first|exact z|exact z.elim|skip
 obtain⟨rfl,z⟩:=z;exact am (am z)
end
end L2
namespace L2
open PySem PySem.Spec PySem.W PyProof.Rows
abbrev bz (e:Addr)(h h':Heap):Prop:=∀ oe vs,h.get? e=some oe->oe.data=.fields vs->∃ vs',h'.get? e=some { oe with data:=.fields vs' }/\vs'.size=vs.size
abbrev Ey (as:List Addr)(h h':Heap):Prop:=∀ b o,b ∉ as->h.get? b=some o->h'.get? b=some o
abbrev yE (h:Heap)(e T:Addr)(fl:Value):Prop:=∃ oe vs oT ts,h.get? e=some oe/\oe.data=.fields vs/\vs[1]? =some (.ref T)/\T≠e/\h.get? T=some oT/\oT.data=.fields ts/\ts[3]? =some fl
def bz.trans {e:Addr}{h h1 h2:Heap}(a:bz e h h1)(b:bz e h1 h2):bz e h h2:=λoe vs x y=>by
 obtain⟨vs1,x1,z1⟩:=a oe vs x y;obtain⟨vs2,x2,z2⟩:=b _ vs1 x1 rfl;exact⟨vs2,x2,z2.trans z1⟩
def bz.same {e:Addr}{h h':Heap}(k:h'.get? e=h.get? e):bz e h h':=λoe vs x y=>⟨vs,by rw[k,x,<-y],rfl⟩
variable {Q:KC}
section
variable {M:Model}{A:Around}{E:KD}{s:Shared}{base:Heap}{env:Env}{outer:List Env}{L e:Addr}
def k6 {oe:Obj}{vs:Array Value}{head:Value}{hadNext:Bool}(hfr:A.frames=some (env::outer))(hl:s.heap.FunFrames base (env::outer))(hf:env.frame=some L)
  (he:s.heap.get? e=some oe) (hd:oe.data=.fields vs) (hsz:1<vs.size)
  (q:∀ h' T,s.heap.objs.size<=T->yE h' e T (rawInt L)->bz e s.heap h'->(∀ b o,b≠e->s.heap.get? b=some o->∃ sl,h'.get? b=some { o with slots:=sl })->Ey (e::mM (env::outer)) s.heap h'->Q () { s with heap:=h' }):
  wpAny M A (do let a <-frameOf env;let pl <-entryPlaceOf L hadNext;let b <-EntryCells.newEntry head a .none (rawInt L) .none pl;setField (.ref e) 1 b) Q E s:=by
 have hne:e ∉ mM (env::outer):=λhm=>by
  obtain⟨_,o,ho,hnf⟩:=hl.mem hm;rw[he]at ho;cases ho;exact hnf vs hd
 refine ad (wpAny_frameOf_fun hfr hl hf λh1 s1=>ad (wpAny_entryPlaceOf λpl hpl=>?_));unfold EntryCells.newEntry newFields;refine ad (wpAny_newObj_type ?_ (hpl.sizeOk5 _ _ _ _ _));have e1:h1.get? e=some oe:=(s1.2.1 e hne).trans he;have e2:=sw (h:=h1) { cls:=.type "traceback",dict:=none,data:=.fields ([head,.ref L,.none,rawInt L,.none]++(if pl.isEmpty then re 6 Value.none else pl)).toArray } e1;have hTe:h1.objs.size≠e:=Nat.ne_of_gt (sK e1);have d3:=Obj.data_mapFields hd (·.setIfInBounds 1 (Value.ref h1.objs.size));have e3:=Heap.get?_update_self (Obj.mapFields (·.setIfInBounds 1 (Value.ref h1.objs.size))) e2 (Obj.isFreed_of_fields d3);have t3:=(Heap.get?_update_other (h1.push { cls:=.type "traceback",dict:=none,data:=.fields ([head,.ref L,.none,rawInt L,.none]++(if pl.isEmpty then re 6 Value.none else pl)).toArray })
  (Obj.mapFields (·.setIfInBounds 1 (Value.ref h1.objs.size))) (Ne.symm hTe)).trans (tz h1 rfl)
 have keep:∀ b o,b≠e->h1.get? b=some o->((h1.push { cls:=.type "traceback",dict:=none,data:=.fields ([head,.ref L,.none,rawInt L,.none]++(if pl.isEmpty then re 6 Value.none else pl)).toArray }).update e (Obj.mapFields (·.setIfInBounds 1 (Value.ref h1.objs.size)))).get? b=some o:=
  λb o hb hq=>(Heap.get?_update_other _ _ (Ne.symm hb)).trans (sw _ hq)
 refine wpAny_setField e2 hd hsz (q _ h1.objs.size ?_ ?_ ?_ (λb o hb ho=>?_) λb o hb ho=>?_)
 .rw[s1.1];exact pc _
 .refine⟨_,_,_,_,e3,d3,by simp[hsz],hTe,t3,rfl,?_⟩
  first|(simp;done)|(rcases hpl with rfl|⟨_,_,_,_,_,_,_,rfl⟩<;>simp)
 .intro oe' vs' x y;rw[he]at x;cases x;rw[hd]at y;cases y;refine⟨vs.setIfInBounds 1 (.ref h1.objs.size),?_,by simp⟩;rw[e3];obtain⟨c0,d0,dt,sl0⟩:=oe;cases hd
  rfl
 .obtain⟨sl,z⟩:=s1.2.2 b o ho;exact⟨sl,keep b _ hb z⟩
 .exact keep b o (λz=>hb (by rw[z];exact lf)) ((s1.2.1 b λz=>hb (dl _ z)).trans ho)
abbrev DO (n₀:Nat)(ps:KG)(H:Hp)(h:Heap)(e:Addr):Prop:=(∃ oe vs,h.get? e=some oe/\oe.data=.fields vs/\vs[1]? =some Value.none)\/∃ T,n₀<=T/\H T=none/\(∀ p ∈ ps,p.1≠T)/\yE h e T .none
def yK {n₀:Nat}{ps:KG}{H:Hp}(hfr:A.frames=some (env::outer))(hl:s.heap.FunFrames base (env::outer))(hf:env.frame=some L)(sf:DO n₀ ps H s.heap e)(h0:n₀<=s.heap.objs.size)(hps:∀ p ∈ ps,p.1<s.heap.objs.size)
  (q:∀ h' T T0,s.heap.objs.size<=T->n₀<=T0->(H T0=none\/s.heap.objs.size<=T0)->(∀ p ∈ ps,p.1≠T0)->(∀ o,s.heap.get? T0=some o->∃ ts,o.data=.fields ts)->yE h' e T (rawInt L)->bz e s.heap h'->h'.FunFrames base (env::outer)->(∀ b o,b≠e->b≠T0->s.heap.get? b=some o->∃ sl,h'.get? b=some { o with slots:=sl })->Ey (e::T0::mM (env::outer)) s.heap h'->(∀ b o,s.heap.get? b=some o->∃ o',h'.get? b=some o')->Q () { s with heap:=h' }):
  wpAny M A (noteFrame (.ref e) env) Q E s:=by
 have fun_of:∀ {h':Heap}{as:List Addr},(∀ b ∈ as,∀ o,s.heap.get? b=some o->∃ vs,o.data=.fields vs)->(∀ b o,b ∉ as->s.heap.get? b=some o->∃ sl,h'.get? b=some { o with slots:=sl })->h'.FunFrames base (env::outer):=
  λ{h' as} ha k=>hl.of_keeps λb o ho hnf=>by
   by_cases hb:b ∈ as
   .obtain⟨vs,z⟩:=ha b hb o ho;exact absurd z (hnf vs)
   .obtain⟨sl,z⟩:=k b o hb ho;exact⟨_,z,rfl⟩
 unfold noteFrame;simp only[hf];rcases sf with⟨oe,vs,he,hd,h1⟩|⟨T0,hT0,hH0,hp0,oe,vs,oT,ts,he,hd,h1,hTe,hT,hdT,h3⟩
 .skip
  refine ad (ap he hd h1 ?_);rw[if_neg (by decide)];refine k6 hfr hl hf he hd (Array.getElem?_eq_some_iff.mp h1).1 λh' T hT st fo sl sy=>?_
  refine q h' T s.heap.objs.size hT h0 (.inr (pc _)) (λp hp=>ol (hps p hp)) (λo z=>absurd (sK z) (Nat.lt_irrefl _)) st fo ?_ (λb o hb _ ho=>sl b o hb ho) (λb o hb ho=>sy b o (λz=>hb ?_) ho) λb o ho=>?_
  .refine fun_of (as:=[e]) (λb hb o ho=>?_) λb o hb ho=>sl b o (by simpa using hb) ho
   obtain rfl:b=e:=by simpa using hb
   rw[he]at ho;cases ho;exact⟨vs,hd⟩
  .rcases li.mp z with z|z
   .exact li.mpr (.inl z)
   .exact dl _ (dl _ z)
  .by_cases hb:b=e
   .subst hb;rw[he]at ho;cases ho;obtain⟨vs',z,_⟩:=fo _ _ he hd;exact⟨_,z⟩
   .obtain⟨sl',z⟩:=sl b o hb ho;exact⟨_,z⟩
 .refine ad (ap he hd h1 ?_);rw[if_pos (show(Value.ref T0 != Value.none)=true from by simp)];refine ad (ap hT hdT h3 ?_);rw[if_neg (show ¬ ((Value.none ==rawInt L)=true) from by simp[rawInt])];refine ad (wpAny_setField hT hdT (Array.getElem?_eq_some_iff.mp h3).1 ?_);have other:∀ b,b≠T0->(s.heap.update T0 (Obj.mapFields (·.setIfInBounds 3 Value.none))).get? b=s.heap.get? b:=λb hb=>Heap.get?_update_other _ _ (Ne.symm hb)
  have self':=Heap.get?_update_self (Obj.mapFields (·.setIfInBounds 3 Value.none)) hT (Obj.isFreed_of_fields (Obj.data_mapFields hdT _));have rec':∀ b o,s.heap.get? b=some o->(∀ vs,o.data≠.fields vs)->b≠T0:=λb o hb hnf z=>by
   rw[z,hT]at hb;cases hb;exact hnf ts hdT
  refine k6 (base:=base) hfr (hl.of_keeps λb o hb hnf=>⟨o,(other b (rec' b o hb hnf)).trans hb,rfl⟩) hf ((other e (Ne.symm hTe)).trans he) hd (Array.getElem?_eq_some_iff.mp h1).1 λh' T hTn st fo sl sy=>?_
  have hTn':s.heap.objs.size<=T:=by
   have z:(s.heap.update T0 (Obj.mapFields (·.setIfInBounds 3 Value.none))).objs.size<=T:=hTn
   rwa [Heap.size_after_update]at z
  refine q h' T T0 hTn' hT0 (.inl hH0) hp0 (λo z=>by rw[hT]at z;cases z;exact⟨ts,hdT⟩) st (bz.trans (bz.same (other e (Ne.symm hTe))) fo) ?_ (λb o hb hb0 ho=>sl b o hb ((other b hb0).trans ho)) (λb o hb ho=>?_) λb o ho=>?_
  .refine fun_of (as:=[e,T0]) (λb hb o ho=>?_) λb o hb ho=>sl b o (λz=>hb (by simp[z])) ((other b λz=>hb (by simp[z])).trans ho)
   rcases li.mp hb with hb|hb
   .subst hb;rw[he]at ho;cases ho;exact⟨vs,hd⟩
   .obtain rfl:b=T0:=by simpa using hb
    rw[hT]at ho;cases ho;exact⟨ts,hdT⟩
  .have n1:b≠e:=λz=>hb (by simp[z])
   have n2:b≠T0:=λz=>hb (by simp[z])
   refine sy b o (λz=>hb ?_) ((other b n2).trans ho);rcases li.mp z with z|z
   .exact li.mpr (.inl z)
   .exact dl _ (dl _ z)
  .by_cases hb:b=e
   .subst hb;obtain⟨vs',z,_⟩:=fo _ _ ((other b (Ne.symm hTe)).trans he) hd;exact⟨_,z⟩
   .by_cases hb0:b=T0
    .subst hb0;obtain⟨sl',z⟩:=sl b _ hb self';exact⟨_,z⟩
    .obtain⟨sl',z⟩:=sl b o hb ((other b hb0).trans ho);exact⟨_,z⟩
def sC {T:Addr}{fl:Value}(st:yE s.heap e T fl)
  (q:∀ h',yE h' e T .none->(∀ b,b≠T->h'.get? b=s.heap.get? b)->(∃ o,s.heap.get? T=some o)->(∃ o,h'.get? T=some o)->(∃ oT ts,h'.get? T=some oT/\oT.data=.fields ts)->Q () { s with heap:=h' }):wpAny M A (setFlight (.ref e) none) Q E s:=by
 obtain⟨oe,vs,oT,ts,he,hd,h1,hTe,hT,hdT,h3⟩:=st;have hz:3<ts.size:=(Array.getElem?_eq_some_iff.mp h3).1;have other:∀ b,b≠T->(s.heap.update T (Obj.mapFields (·.setIfInBounds 3 ((none:Option Addr).elim Value.none λf=>rawInt f)))).get? b=s.heap.get? b:=λb hb=>Heap.get?_update_other _ _ (Ne.symm hb)
 have self':=Heap.get?_update_self (Obj.mapFields (·.setIfInBounds 3 ((none:Option Addr).elim Value.none λf=>rawInt f))) hT (Obj.isFreed_of_fields (Obj.data_mapFields hdT _));unfold setFlight;refine ad (ap he hd h1 ?_);rw[if_pos (show(Value.ref T != Value.none)=true from by simp)];refine wpAny_setField hT hdT hz (q _ ⟨oe,vs,_,_,(other e (Ne.symm hTe)).trans he,hd,h1,hTe,self',Obj.data_mapFields hdT _,by simp[hz]⟩ other ⟨_,hT⟩ ⟨_,self'⟩ ⟨_,_,self',Obj.data_mapFields hdT _⟩)
end
variable {A:Around}
section
variable {X:Cx}{U:St}{H:Hp}{s:Shared}{e C:Addr}{dx:Option Addr}{fs:List (Str×V)}{h':Heap}
def Inv.yk {Y:KG}(I:Inv X Y U H s):Inv X [] U H s:=I.m9 λ_ z=>absurd z (by simp)
def Inv.Hj {T0:Addr}{as:List Addr}(I:Inv X [] U H s)(hpn:∀ p ∈ X.pn,p.1≠T0) (he:H e=some (.exc C dx fs false)) (has:as=mM X.stack)
  (hT:X.s₀.heap.objs.size<=T0) (hT0:H T0=none\/s.heap.objs.size<=T0) (hTd:∀ o,s.heap.get? T0=some o->∃ ts,o.data=.fields ts)
  (fo:bz e s.heap h') (sl:∀ b o,b≠e->b≠T0->s.heap.get? b=some o->∃ sl,h'.get? b=some { o with slots:=sl }) (sy:Ey (e::T0::as) s.heap h') (th:∀ b o,s.heap.get? b=some o->∃ o',h'.get? b=some o'):
  Inv X [] U H { s with heap:=h' }:=by
 subst has;obtain⟨⟨vs,ho,hsz,_⟩,z⟩:=id (I.hok e _ he);have hH0:H T0=none:=by
  rcases hT0 with z|z
  .exact z
  .exact I.hok.fresh z
 have nT:∀ {b:Addr}{o:Obj},s.heap.get? b=some o->(∀ vs,o.data≠.fields vs)->b≠T0:=λ{b o} hb hn z=>by
  subst z;obtain⟨ts,q⟩:=hTd _ hb;exact hn ts q
 have eC:∀ b o,H b=none->b≠T0->b ∉ mM X.stack->s.heap.get? b=some o->h'.get? b=some o:=λb o hb h0 hf hq=>sy b o (λm=>by
  rcases li.mp m with m|m
  .rw[m,he]at hb;cases hb
  .rcases li.mp m with m|m
   .exact h0 m
   .exact hf m) hq
 have BE:∀ a u,H a=some u->a≠e->∀ o,s.heap.get? a=some o->h'.get? a=some o:=λa u ha ne o hq=>sy a o (λm=>by
  rcases li.mp m with m|m
  .exact ne m
  .rcases li.mp m with m|m
   .rw[m,hH0]at ha;cases ha
   .rw[I.mU a m]at ha;cases ha) hq
 refine I.step (g':=s.gens) (t':=s.toks) (d':=s.drawn) (ch:=[T0]) (h':=h') (λb hb=>?_) (λb o hL hfs hch hq hn=>?_) (λb o hL hfs hch hq hn=>?_) (λb o _ _ hn=>hn) (λb o _ hq=>th b o hq) (λ_ _ q=>q) (λ_ _ _ q=>q) (λb ps q=>⟨#[],by rw[q];simp⟩) (λm hm=>?_) (λa u ha=>?_) I.bare
 .obtain rfl:b=T0:=by simpa using hb
  refine⟨.inr hT,?_,λx c hc z=>?_,λp hp=>hpn p (by simpa using hp)⟩
  .obtain⟨m,⟨o,es,ep,ho',hd,_⟩,_⟩:=I.loc;intro z;exact nT ho' (λvs q=>by rw[hd]at q;cases q) z.symm
  .obtain⟨v,o,ho',hd⟩:=I.cell x c hc;exact nT ho' (λvs q=>by rw[hd]at q;cases q) z
 .refine eC b o hn (by simpa using hch) (λm=>?_) hq;rcases li.mp (I.g6 b m) with z|z
  .exact hL z
  .exact hfs z
 .exact sl b o (λz=>by rw[z,he]at hn;cases hn) (by simpa using hch) hq
 .obtain⟨o,es,ep,ho',hd,r⟩:=hm;have n1:X.env.locals≠e:=λz=>by have:=I.free;rw[z,he]at this;cases this
  obtain⟨sl',q⟩:=sl _ o n1 (nT ho' λvs q=>by rw[hd]at q;cases q) ho';exact⟨_,es,ep,q,hd,r⟩
 .by_cases hae:a=e
  .subst hae;rw[he]at ha;cases ha;obtain⟨vs',q,hz⟩:=fo _ vs ho rfl;refine⟨⟨vs',q,hz.trans hsz,λy=>by cases y⟩,?_⟩;rcases z with z|⟨d,ed,d1,z1,ne,mA,⟨od,es,ep,e2,c⟩,r⟩
   .exact .inl z
   .exact .inr ⟨d,ed,d1,z1,ne,mA,⟨od,es,ep,BE d _ d1 ne _ e2,c⟩,r⟩
  .refine(I.hok a u ha).eC (λb o hb hq=>?_) (λ_ q=>q) λ_ _ q=>q
   rcases hb with hb|hb
   .subst hb;exact BE b u ha hae o hq
   .refine BE b _ hb (λz=>?_) o hq;rw[z,he]at hb;cases hb
abbrev xM (P:Program)(w:World):rK:=λouter H s E u s'=>∃ (e:Addr) (H':Hp) (C:Addr) (dx:Option Addr) (fs:List (Str×V)) (T:Addr),u=.ref e/\s'.os=s.os/\AllBare s'.gens/\Un (mM outer) [] H H' s.heap s'.heap/\fu P w H' s'.heap/\
 H' e=some (.exc C dx fs false)/\s.heap.objs.size<=T/\H' T=none/\yE s'.heap e T .none/\E e H'
abbrev ET (X:Cx)(E:St->XK):Prop:=∀ (U:St) (H:Hp) (s:Shared) (e C:Addr) (dx:Option Addr) (fs:List (Str×V)),Inv X [] U H s->DO X.s₀.heap.objs.size X.pn H s.heap e->H e=some (.exc C dx fs false)->E U e H->X.xe (.ref e) s
def lK {E:St->XK}(x:ET X E):Passes (xM X.prog X.w) X E:=by
 intro Y U H s u s' I h;obtain⟨e,H',C,dx,fs,T,rfl,os,bare,un,hok,he,hT,hT0,st,q⟩:=h;have J:Inv X [] U H' s':=Inv.vV (ch:=[]) I.yk os un hok bare (λb z=>absurd z (by simp));exact x U H' s' e C dx fs J (.inr ⟨T,Nat.le_trans I.sz hT,hT0,λp hp=>ol (nl (sK (I.pin p (mem_append_left _ hp)).1) hT),st⟩) he q
def lh {M:Model}{E E':KD}{Q:Shared->Prop}(I:Inv X [] U H s)(hs:X.stack=X.env::X.outer)(hf:X.env.frame=some X.env.locals)(sf:DO X.s₀.heap.objs.size X.pn H s.heap e)(he:H e=some (.exc C dx fs false))
  (q:∀ s' T,Inv X [] U H s'->s'.os=s.os->X.s₀.heap.objs.size<=T->H T=none->(∀ p ∈ X.pn,p.1≠T)->yE s'.heap e T .none->Q s'):
  wpAny M X.A (noteFrame (.ref e) X.env) (λ_ s1=>wpAny M X.A (setFlight (.ref e) none) (λ_ s2=>Q s2) E s1) E' s:=by
 have hl:s.heap.FunFrames X.base (X.env::X.outer):=hs▸I.stack;refine yK (by rw[<-hs];exact I.ok.frames) hl hf sf I.sz (λp hp=>sK (I.pin p (mem_append_left _ hp)).1) λh1 T T0 hT hT0 hH0 hp0 hTd st fo fF sl sy th=>?_
 have I1:=I.Hj (T0:=T0) (as:=mM (X.env::X.outer)) (h':=h1) hp0 he (by rw[hs]) hT0 hH0 hTd fo sl sy th;have hHT:H T=none:=I.hok.fresh hT;have hpT:∀ p ∈ X.pn,p.1≠T:=λp hp=>ol (nl (sK (I.pin p (mem_append_left _ hp)).1) hT)
 refine sC (s:={ s with heap:=h1 }) st λh2 nB oth _ th2 rec2=>?_
 have I2:Inv X [] U H { s with heap:=h2 }:=by
  refine Inv.turned (s:={ s with heap:=h1 }) (it:=T) (h':=h2) (t':=s.toks) I1 (λb o hb hq=>(oth b hb).trans hq) hHT ?_ (.inr (Nat.le_trans I.sz hT)) (λx c hc z=>?_) λp hp=>hpT p (by simpa using hp)
  .exact λz=>absurd (nl I.lt hT) (by rw[z];exact Nat.lt_irrefl _)
  .obtain⟨v,o,ho,_⟩:=I.cell x c hc;exact absurd (nl (sK ho) hT) (by rw[z];exact Nat.lt_irrefl _)
 exact q _ T I2 rfl (Nat.le_trans I.sz hT) hHT hpT nB
def uC {P:Program}{w:World}{K:W.Frag}{mg:KH}{base:Heap}{N:List Str}{qual:Str}{scope:Scope}{f:Addr}{cd:Value}{outer:List Env}{E:XK}:
  ET (uA (xM P w) P w K mg base N qual scope f cd A outer s H E) (λ_=>E):=by
 intro σ' H' s' e C dx fs I sf he q;show wpAny _ _ (do noteFrame (.ref e) _;setFlight (.ref e) none) _ _ s';refine ad (lh I rfl rfl sf he λs2 T J os hT hH _ st=>?_);exact⟨e,H',C,dx,fs,T,rfl,J.os,J.bare,J.base,J.hok,he,hT,hH,st,q⟩
end
structure Hu (K:W.Frag) (C f:Addr):Prop where
 mks:bR K C=true
 init:W.findIn K (.ref C) "__init__"=some (some (.ref f))
 fn:W.isFn K (.ref f)=true
 kp:W.keepIn K (.ref C)=true
variable {us:List Value}{vs:List V}
section
variable {X:Cx}{Y:KG}{U:St}{H:Hp}{s:Shared}{C f:Addr}
def Inv.BJ (us:List Value)(I:Inv X Y U H s):Inv X Y U (upd H (s.heap.objs.size+1) (.exc C none [] true))
  { s with heap:=(s.heap.push { cls:=.type "tuple",data:=.seq us.toArray }).push { cls:=.ref C,data:=.fields #[.ref s.heap.objs.size,.none,.none,.none,.bool false,.none] } }:=by
 have I1:=I.kept (h':=s.heap.push { cls:=.type "tuple",data:=.seq us.toArray }) (t':=s.toks) λb u q=>sw _ q
 refine Inv.laid (s:={ s with heap:=s.heap.push { cls:=.type "tuple",data:=.seq us.toArray } }) (a:=s.heap.objs.size+1) (o:=.exc C none [] true) (t':=s.toks) I1 (λb u q=>sw _ q) (Nat.le_of_eq (Heap.size_push _ _)) ?_;refine⟨⟨#[.ref s.heap.objs.size,.none,.none,.none,.bool false,.none],?_,rfl,λ_=>rfl⟩,.inl ⟨rfl,rfl⟩⟩;have:=tz (s.heap.push { cls:=.type "tuple",data:=.seq us.toArray }) (o:={ cls:=.ref C,data:=.fields #[.ref s.heap.objs.size,.none,.none,.none,.bool false,.none] }) rfl
 rwa [Heap.size_push]at this
variable {CX:rK}{k:Nat}{fd:FuncData}{ps:List Str}{sp:Sp}{dvs:List V}{ds:List Value}{E:St->XK}{x m:Str}{p pos apos:Pos}{e o:Expr}{es:List Expr}{ta:TE}{t:TA}
abbrev xy (C:Addr)(sp:Sp)(dvs:List V)(E:St->XK)(t:TA):TE:=λU H Q=>t U H λvs H1=>vs.length<=1000/\∀ x,H1 x=none->sp (.ref x::(vs++dvs)) (upd H1 x (.exc C none [] true)) (λv H2=>v=.non/\Q (.ref x) H2) (E U)
def la {Q:VK}(M:Hu X.K C f)(F:cM X.prog X.w X.K X.mg X.base CX k f fd ps sp)(hr:bI (k+1) X.A)(hb:Binds X.K fd ps ds)(hd:Vals dvs ds)
  (hx:Passes CX X E) (hz:us.length<=bn) (I:Inv X Y U H s) (r:Vals vs us)
  (h:∀ x,H x=none->sp (.ref x::(vs++dvs)) (upd H x (.exc C none [] true)) (λv H2=>v=.non/\Q (.ref x) H2) (E U)):
  wpAny (model X.prog X.w) X.A (call (.ref C) us) (EP X Y U Q) X.xe s:=by
 have hq:=h (s.heap.objs.size+1) (I.hok.fresh (Nat.le_succ _));have I2:=Inv.BJ (C:=C) us I;have r2:Vals (V.ref (s.heap.objs.size+1)::(vs++dvs)) (Value.ref (s.heap.objs.size+1)::(us++ds)):=.cons rfl (r.append hd);have hl:(Value.ref (s.heap.objs.size+1)::us++ds).length=ps.length:=by
  have e:=r2.length;rw[F.len _ _ _ _ hq]at e;exact e.symm
 obtain⟨hh,g,d,tk,os⟩:=s;refine wpAny_call (C2 (fI:=f) I.bO hz M.mks M.init (beq_iff_eq.mp M.fn) (codeAny_mono (F.run _ X.stack _ _ ⟨Value.ref (hh.objs.size+1)::us,[]⟩ (Value.ref (hh.objs.size+1)::(us++ds)) _ _ (E U) (hr.make C us [])
  (I2.gW.make C us []) (hb _ (Value.ref (hh.objs.size+1)::us) I2.bO hl) r2 hq) λr s' hq'=>?_))
 cases r with
 |error e=>exact hx Y U _ _ e s' I2 hq'
 |ok fl=>
  cases fl with
  |ret u=>
   obtain⟨v,H',J,rv,ev,q⟩:=I2.after hq';subst ev;obtain rfl:u=Value.none:=rv;exact⟨rfl,.ref _,H',J,rfl,q⟩
  |next=>exact False.elim hq'
  |brk=>exact False.elim hq'
  |cont=>exact False.elim hq'
def yl (M:Hu X.K C f)(F:cM X.prog X.w X.K X.mg X.base CX k f fd ps sp)(hr:bI (k+1) X.A)(hg:Gl X x)(hm:X.mg x=some (.ref C))(hb:Binds X.K fd ps ds)(hd:Vals dvs ds)(hx:Passes CX X E)
  (ha:PA X (e::es) t) (hdb:(x ==("__debug__":Str))=false:=by decide) (he:bm (e::es) X.env=(false,eval e X.env)::bm es X.env:=by rfl) (hpl:(backTo pos (bm es X.env)).any (·.1)=false:=by rfl):
  PE X (.Call (.Name x p) (e::es) [] pos) (xy C sp dvs E t):=by
 intro Y s U H Q I h;refine bv (bw I hg hm ?_ hdb);refine W.callWith_K (h₀:=X.base) I.ok.mod.kin M.kp (aw (ha pos Y s U H _ I h) λus s1 ⟨vs,H1,I1,r,z,q⟩=>⟨I1.bO,?_⟩) he hpl;exact la M F hr hb hd hx (by rw[nil_append,<-r.length];exact Nat.le_of_lt (eg z)) I1 r q
structure Dl (K:W.Frag) (C:Addr):Prop where
 mks:bR K C=true
 init:W.findIn K (.ref C) "__init__"=some (some (.builtin "ValueError.__init__"))
 kp:W.keepIn K (.ref C)=true
 cls:cz K C
abbrev y0 (C:Addr)(t:TA):TE:=λU H Q=>t U H λvs H1=>vs.length=1/\∀ x,H1 x=none->Q (.ref x) (upd H1 x (.exc C none [] true))
def qm {Q:VK}(M:Dl X.K C)(I:Inv X Y U H s)(r:Vals vs us)(h1:vs.length=1)(h:∀ x,H x=none->Q (.ref x) (upd H x (.exc C none [] true))):
  wpAny (model X.prog X.w) X.A (call (.ref C) us) (EP X Y U Q) X.xe s:=by
 have hq:=h (s.heap.objs.size+1) (I.hok.fresh (Nat.le_succ _));have I2:=Inv.BJ (C:=C) us I;obtain⟨u,rfl⟩:∃ u,us=[u]:=by
  have e:=r.length;rw[h1]at e
  match us,e with
  | [u],_=>exact⟨u,rfl⟩
 obtain⟨hh,g,d,tk,os⟩:=s;refine wpAny_call (zX I.bO (by rw[sizeLine_eq];exact nw rfl) M.mks M.init (jA (C:=C) (dx:=none) (fs:=[]) (fr:=true) I2 av M.cls λs' J=>?_));exact⟨rfl,.ref _,_,J,rfl,hq⟩
def xJ (M:Dl X.K C)(hg:Gl X x)(hm:X.mg x=some (.ref C))(ha:PA X (e::es) t)(hdb:(x ==("__debug__":Str))=false:=by decide) (he:bm (e::es) X.env=(false,eval e X.env)::bm es X.env:=by rfl) (hpl:(backTo pos (bm es X.env)).any (·.1)=false:=by rfl):
  PE X (.Call (.Name x p) (e::es) [] pos) (y0 C t):=by
 intro Y s U H Q I h;refine bv (bw I hg hm ?_ hdb);refine W.callWith_K (h₀:=X.base) I.ok.mod.kin M.kp (aw (ha pos Y s U H _ I h) λus s1 ⟨vs,H1,I1,r,z,q⟩=>⟨I1.bO,?_⟩) he hpl;exact qm M I1 r z q
structure JF (K:W.Frag) (B:Addr):Prop where
 ga:W.specialIn K (.ref B) "__getattribute__"=some (some (.builtin "type.__getattribute__"))
 rd:W.readsIn K B (.type "type")=true
 fi:W.findCls K (.ref B) (.type "type") "__init__"=some (.val (.builtin "ValueError.__init__"))
abbrev HW (K:W.Frag)(t:TA):TE:=λU H Q=>t U H λvs H1=>∃ a C dx fs fr v,vs=[.ref a,v]/\H1 a=some (.exc C dx fs fr)/\cz K C/\Q .non H1
def DU {B:Addr}{pl:Sem Bool}{np:Pos}(b:JF X.K B)(hg:Gl X x)(hm:X.mg x=some (.ref B))(ha:PA X (e::es) t)(hdb:(x ==("__debug__":Str))=false:=by decide)
  (hst:bm (e::es) X.env=(false,eval e X.env)::bm es X.env:=by rfl) (hpl:(backTo pos (bm es X.env)).any (·.1)=false:=by rfl)
  (ht:eval (.Call (.Attribute (.Name x np) "__init__" apos) (e::es) [] pos) X.env=(do
   let ov <-eval (.Name x np) X.env
   standAt apos.atName
   let(f,first) <-holding [ov] (getMethod ov "__init__" pl)
   callWith pos f first (backTo pos (bm (e::es) X.env)) (backToKw pos (keywordEach [] X.env))):=by rfl):
  PE X (.Call (.Attribute (.Name x np) "__init__" apos) (e::es) [] pos) (HW X.K t):=by
 intro Y s U H Q I h;refine W.methodCall_KW (pl:=pl) (bw I hg hm ?_ hdb) ht;refine W.method_cls I.bO b.ga (W.cls_value I.bO b.rd b.fi (by decide+kernel) ?_);refine PyProof.Rows.callWith_builtin1 (aw (ha pos Y _ U H _ (I.tok _) h) λus s1 ⟨vs,H1,I1,r,a,C,dx,fs,fr,v,ev,ea,c,q⟩=>?_) hst hpl;subst ev;cases r with
 |cons r1 r2=>
  cases r2 with
  |cons r3 r4=>
   cases r4;cases r1;exact qd I1 ea c λs' J=>⟨.non,H1,J,rfl,q⟩
structure J3 (K:W.Frag) (C f:Addr):Prop where
 ga:W.specialIn K (.ref C) "__getattribute__"=some (some (.builtin "type.__getattribute__"))
 rd:W.readsIn K C (.type "type")=true
 fi:W.findCls K (.ref C) (.type "type") "__init__"=some (.val (.ref f))
 kp:W.keepIn K (.ref f)=true
end
section
open PySem.Builtin PySem.Builtin.ObjectAttr
variable {prog:Program}{w:World}{A:Around}{E:KD}{s:Shared}{K:W.Frag}{x C:Addr}{ox:Obj}{odo:Option Obj}
structure xi (K:W.Frag) (C:Addr):Prop where
 ha:W.findIn K (.ref C) "__class__"=some (some (.builtin "object.__class__"))
 hn:W.specialIn K (.builtin "object.__class__") "__get__"=some (some (.builtin "getset_descriptor.__get__"))
 htk:W.takesIn K (.builtin "object.__class__")=some true
def zy {Q:Option Value->Shared->Prop}(X:K.In s.heap)(I:W.InstAt s.heap x ox C odo)(c:cz K C)(z:xi K C)(hfo:W.findObj K C odo "__class__"=some (.bind (.builtin "getset_descriptor.__get__") (.builtin "object.__class__")))
  (h:Q (some (.ref C)) { s with toks:=s.toks+1 }):wpAny (model prog w) A (getAttr? (.ref x) "__class__") Q E s:=by
 obtain⟨hp,g,d,t,os⟩:=s;have L0:=I.type (M:=model prog w);have L1:=looks_findIn (M:=model prog w) X c.ga;have L2':=looks_findIn (M:=model prog w) X c.gn;have L3:=looks_find (M:=model prog w) X I hfo;have L4:Looks (model prog w) hp (isInstance (.ref x) (.type "BaseException")) true:=I.type.andThen (looks_mroIn X (c.sub (by decide+kernel)));unfold getAttr? getAttrBy? getAttrBy;refine ad (wpAny_mkText (ad (wpAny_attempt (bd (ad (L0.at (ad (L1.at ?_))))))));have e1:(Value.builtin "BaseException.__getattribute__" ==Value.builtin "object.__getattribute__")=false:=by decide+kernel
 dsimp only;rw[e1,Bool.and_false];show wpAny _ _ (getAttrByItsOwn _ _ _ _ _ _) _ _ _;unfold getAttrByItsOwn hookBefore;refine ad (L2'.at ?_);refine ad (wpAny_attempt (bd ?_));unfold callGetattribute;show wpAny _ _ (boundAndCalled _ _ _) _ _ _;unfold boundAndCalled;rw[PySem.F.attr_ValueError.ga.bind];refine ad (am (wpAny_call (codeAny_call_builtin PySem.F.attr_ValueError.ga.plain PySem.F.entry_bexc_ga ?_)));refine @check_slot (model prog w) _ _ _ "BaseException.__getattribute__" "BaseException" "__getattribute__" (.ref x) [.str "__class__" t] [] _ n8 kY L4 (PySem.F.args_bexc_ga (.ref x) (.str "__class__" t)) ?_;unfold Builtin.«object.__getattribute__»;refine ad (am (ad (am (ad (L0.at (ad (L3.at ?_)))))));show wpAny _ _ (holding [_] (call _ [_,.ref x,.ref C]) >>= ret) _ _ _;refine ad (bd (wpAny_call (class_get (s:=⟨hp,g,d,t+1,os⟩) (ox:=ox) (od:=odo) X I (c.sub (by decide+kernel)) ?_)));refine am ?_;show wpAny _ _ (handedOut (.ref C)) _ _ _;exact handed_on rfl (am h)
def yv (c:cz K C)(z:xi K C):W.findObj K C odo "__class__"=some (.bind (.builtin "getset_descriptor.__get__") (.builtin "object.__class__")):=by
 obtain⟨cd,hc,_⟩:=W.any_some c.hd;unfold W.findObj;rw[hc,Option.bind_some,z.ha,Option.bind_some];simp[z.hn,z.htk]
def yd (c:cz K C)(z:xi K C):W.KitX K (.ref x) (.ref C) (λh=>W.InstAt h x ox C odo) where
 ty:=λ_ _ _ I=>I.type
 it:=λ_ _ X _=>by
  obtain⟨cdD,hcD,_⟩:=W.any_some c.hd;unfold W.clsIn at hcD
  split at hcD
  .rename_i c' d' cd' sl' ho;intro A' Q' E' s' k q;unfold isType loadHead;exact ad (wpAny_loadPart (k _ _ (X _ _ ho)) (am q))
  .cases hcD
 ne:=λh tp dd its n sl X htp=>by
  obtain⟨cdD,hcD,_⟩:=W.any_some c.hd;refine Bool.eq_false_iff.mpr λq=>?_
  have e:C=tp:=Value.ref.inj (beq_iff_eq.mp q);subst e;unfold W.clsIn at hcD
  split at hcD
  .rename_i c' d' cd' sl' ho;have z:=(X _ _ ho).symm.trans htp;cases z
  .cases hcD
 ca:=λX I k=>zy X I c z (yv c z) k
end
section
variable {X:Cx}{Y:KG}{U:St}{H:Hp}{s:Shared}{a C:Addr}{dx:Option Addr}{fs:List (Str×V)}{fr:Bool}
def xu (I:Inv X Y U H s)(e:H a=some (.exc C dx fs fr)):∃ ox odo,W.InstAt s.heap a ox C odo:=by
 obtain⟨⟨vs,ho,_⟩,z⟩:=id (I.hok a _ e);rcases z with⟨rfl,_⟩|⟨d,rfl,_,_,_,mA,⟨od,es,ep,hod,_⟩,_⟩
 .exact⟨_,none,ho,rfl,rfl,True.intro⟩
 .exact⟨_,some od,ho,rfl,rfl,hod⟩
def we {E:KD}{Q:KD}{cv:Value}{b:Bool}(I:Inv X Y U H s)(e:H a=some (.exc C dx fs fr))(c:cz X.K C)(z:xi X.K C)(k:W.kitOne X.K (.ref C) cv=some b)
  (h:∀ tk,Q (.bool b) { s with toks:=tk }):wpAny (model X.prog X.w) A (call (.builtin "isinstance") [.ref a,cv]) Q E s:=by
 obtain⟨ox,odo,J⟩:=xu I e;exact W.kia_one (yd (ox:=ox) (odo:=odo) c z) I.bO J k (λz=>nomatch z) h
end
end L2
namespace L2
open PySem PySem.Spec PySem.W PyProof.Rows
variable {dx:Option Addr}
section
variable {X:Cx}{f:Str}{o value ex:Expr}{ta tv te:TE}{pos pos':Pos}{E:St->XK}
def qb {h:Heap}{a:Addr}{C:Addr}{vs:Array Value}{M:Model}(ho:h.get? a=some { cls:=.ref C,dict:=dx,data:=.fields vs }):W.Looks M h (isType (.ref a)) false:=by
 intro A Q E s k q;unfold isType loadHead;exact ad (wpAny_loadPart (k _ _ ho) (am q))
abbrev D3 (K:W.Frag)(E:St->XK)(te:TE):TS:=λD U H=>te U H λv H1=>∃ a C dx fs,v=.ref a/\H1 a=some (.exc C dx fs true)/\cz K C/\E U a (upd H1 a (.exc C dx fs false))
def vC (hx:ET X E)(hc:X.calm=true)(he:PE X ex te):PS X (.Raise (some ex) none pos) (D3 X.K E te):=by
 intro Y s U H D I h;rw[arm_exec_Raise];simp only[evalOpt,Option.map];refine ad (wpAny_standAt ?_);unfold raiseStmt;refine ad (ad (aw (he Y s U H _ I h) λu s1 ⟨y,H1,I1,ry,a,C,dx,fs,ey,ea,c,q⟩=>ad (wpAny_standAt (am ?_))));subst ey;obtain rfl:u=Value.ref a:=ry;obtain⟨⟨vs,ho,hsz,h1⟩,z⟩:=id (I1.hok a _ ea);have h1':=h1 rfl;have hq:X.xe (.ref a) s1:=by
  have J:Inv X [] U (upd H1 a (.exc C dx fs false)) s1:=by
   have J1:=I1.yk.write (x:=a) (e:=a) (o:=.exc C dx fs false) (t':=s1.toks) (h':=s1.heap) (by rw[ea];exact True.intro) (.inl rfl) (λ_ _ _ q=>q) ⟨_,ho⟩ ?_
   .exact J1
   .refine⟨⟨vs,ho,hsz,λy=>by cases y⟩,?_⟩;rcases z with z|⟨d,ed,d1,z1,ne,r⟩
    .exact .inl z
    .exact .inr ⟨d,ed,by rw[af ne];exact d1,z1,ne,r⟩
  exact hx U _ s1 a C dx fs J (.inl ⟨_,vs,ho,rfl,h1'⟩) av q
 obtain⟨hp,g,d,tk,os⟩:=s1;have L0:Looks (model X.prog X.w) hp (typeOf (.ref a)) (.ref C):=(Looks.ld ho).andThen .now;have L1:Looks (model X.prog X.w) hp (isType (.ref a)) false:=qb ho;have L2':Looks (model X.prog X.w) hp (isInstance (.ref a) (.type "BaseException")) true:=L0.andThen (looks_mroIn I1.bO (c.sub (by decide+kernel)));have L5:Looks (model X.prog X.w) hp (typeOf (.ref C)) (.type "type"):=looks_typeIn I1.bO c.mt;have tt:(Value.type "type" ==Value.type "type")=true:=by decide
 repeat(first|simp only[Bool.false_eq_true,if_false,if_true,tt]|lk)
 rw[h1'];refine am ?_;rw[if_neg (by decide)];exact am (wpAny_raiseNew_none (I1.ok.hd hc) hq)
end
@[reducible]def Cx.bB (X:Cx) (e:Value):Cx:={ X with A:=X.A.mark (some e),calm:=false,xe:=λ_ _=>False }
variable {xe:KD}{ps:KG}{D:Ends}
section
variable {X:Cx}{Y:KG}{U:St}{H:Hp}{s:Shared}
def Cx.Ok.bB (ok:X.Ok)(e:Value):(X.bB e).Ok:=
 ⟨ok.mod,ok.kind,ok.glob,ok.blt,ok.above,ok.inj,ok.has,ok.cab,(λz=>by cases z),ok.frames,ok.stk,ok.exf,ok.bs,ok.bsz,ok.noex,ok.exfs,ok.i9,ok.frf⟩
def Inv.bB (I:Inv X Y U H s)(e:Value):Inv (X.bB e) Y U H s:=⟨I.ok.bB e,I.os,I.bare,I.base,I.loc,I.cell,I.free,I.freeC,I.pin,I.hok,I.len⟩
def Inv.jg {e:Value}(ok:X.Ok)(I:Inv (X.bB e) Y U H s):Inv X Y U H s:=⟨ok,I.os,I.bare,I.base,I.loc,I.cell,I.free,I.freeC,I.pin,I.hok,I.len⟩
def ei {M:Model}{A:Around}{E:KD}{Q:KC}{i:Nat}{n:Str}{pos:Pos}(I:Inv X Y U H s)(hN:X.N.Nodup)(hi:X.N[i]? =some n)(hn:X.env.scope.names.lookup n=some .local)
  (h:∀ s',Inv X Y (U.set i none) H s'->Q () s'):wpAny M A (do bindName X.env n .none;unbindBehindTheSuite X.env n pos) Q E s:=by
 have hcls:(X.env.scope.kind ==.class||(X.env.scope.kind ==.module&&X.env.locals != X.env.globals))=false:=by rw[I.ok.kind];rfl
 refine ad (wpAny_bindName (a7 I hN hi (.inl hn) (v:=.non) rfl (λs1 I1=>?_) (.inr hn)));obtain⟨m,hm,hl⟩:=I1.loc;unfold unbindBehindTheSuite;refine wpAny_onRaise ?_;unfold unbindName;refine ad (wpAny_point (ad ?_));unfold deleteName;have hk:X.env.kindOf n=some .local:=hn;have hiσ:i<U.length:=by rw[I.len];exact(sn.mp hi).1
 have hmn:(m n).isSome=true:=by
  obtain⟨u,_,l⟩:=hl i n .non hi (by rw[getElem?_set_self hiσ]) (.inl hn);rcases l with⟨_,q⟩|⟨q,_⟩
  .rw[q];rfl
  .rcases q with q|q<;>(rw[hk]at q;cases q)
 simp only[hk,hcls];rw[if_neg (by decide)];refine ad (wpAny_nsDel_keeps hm λh2 v hn2 hs2=>?_);rw[hmn];simp only[if_true,Bool.not_true,Bool.false_eq_true,if_false];refine am (wpAny_point (h { s1 with heap:=h2 } ?_));obtain⟨oL,esL,epL,hoL,_⟩:=id hm;have wR:=I1.wR;refine⟨I1.ok,I1.os,I1.bare,⟨λb o e n hb hx=>?_,λb o e n hb hx=>?_,I1.base.free,λb o e hx=>?_,I1.base.tups,I1.base.frzs,I1.base.tbls⟩,⟨_,hn2,λj y v' e1 e2 e3=>?_⟩,λy c e=>?_,I1.free,I1.freeC,λp hp=>?_,λa u ha=>?_,by rw[length_set];exact I.len⟩
 .exact(hs2.2 b (ol (nl (sK e) I1.ok.above))).trans (I1.base.keep b o e n hb hx)
 .obtain⟨sl,q⟩:=I1.base.slot b o e n hb hx;exact⟨sl,(hs2.2 b (ol (nl (sK e) I1.ok.above))).trans q⟩
 .obtain⟨o',q⟩:=I1.base.there b o e hx;exact⟨o',(hs2.2 b (ol (nl (sK e) I1.ok.above))).trans q⟩
 .have hj:j≠i:=λz=>by rw[z,getElem?_set_self hiσ]at e2;cases e2
  rw[getElem?_set_ne (Ne.symm hj)]at e2;obtain⟨u,r,q⟩:=hl j y v' e1 (by rw[getElem?_set_ne (Ne.symm hj)];exact e2) e3;refine⟨u,r,?_⟩;rcases q with⟨k,e⟩|⟨k,c,e,z⟩
  .refine .inl ⟨k,?_⟩;have ny:y≠n:=λz=>hj (jN hN e1 (z▸hi))
   show(if y=n then v else m y)=some u;rw[if_neg ny];exact e
  .exact .inr ⟨k,c,e,z.sameBut hs2 (wR y c e)⟩
 .obtain⟨w',z⟩:=I1.cell y c e;exact⟨w',z.sameBut hs2 (wR y c e)⟩
 .obtain⟨e,n,ne,nf,d⟩:=I1.pin p hp;exact⟨(hs2.2 p.1 ne).trans e,n,ne,nf,d⟩
 .refine(I1.hok a u ha).eC (λb o hb hq=>(hs2.2 b ?_).trans hq) (λ_ q=>q) λ_ _ q=>q
  rintro rfl;rcases hb with hb|hb
  .rw[<-hb,I1.free]at ha;cases ha
  .rw[I1.free]at hb;cases hb
@[reducible]def Cx.fB (X:Cx) (Y:KG) (xe:KD):Cx:={ X with pn:=X.pn++Y,xe:=xe }
def Cx.Ok.fB (ok:X.Ok)(Y:KG)(xe:KD):(X.fB Y xe).Ok:=
 ⟨ok.mod,ok.kind,ok.glob,ok.blt,ok.above,ok.inj,ok.has,ok.cab,ok.hd,ok.frames,ok.stk,ok.exf,ok.bs,ok.bsz,ok.noex,ok.exfs,ok.i9,ok.frf⟩
def Inv.fB (I:Inv X Y U H s)(xe:KD):Inv (X.fB Y xe) [] U H s:=
 ⟨I.ok.fB Y xe,I.os,I.bare,I.base,I.loc,I.cell,I.free,I.freeC,λp hp=>I.pin p (by simpa using hp),I.hok,I.len⟩
def Inv.fm (ok:X.Ok)(I:Inv (X.fB Y xe) ps U H s):Inv X Y U H s:=
 ⟨ok,I.os,I.bare,I.base,I.loc,I.cell,I.free,I.freeC,λp hp=>I.pin p (mem_append_left _ hp),I.hok,I.len⟩
def SP.fm {f:Flow}(ok:X.Ok)(h:SP (X.fB Y xe) ps D f s):SP X Y D f s:=by
 cases f with
 |next=>obtain⟨σ',H',I,q⟩:=h;exact⟨σ',H',I.fm ok,q⟩
 |brk=>obtain⟨σ',H',I,q⟩:=h;exact⟨σ',H',I.fm ok,q⟩
 |cont=>obtain⟨σ',H',I,q⟩:=h;exact⟨σ',H',I.fm ok,q⟩
 |ret u=>obtain⟨v,σ',H',I,r,q⟩:=h;exact⟨v,σ',H',I.fm ok,r,q⟩
def Eo {body:List Stmt}{h0:ExceptHandler}{hs:List ExceptHandler}{pos:Pos}{E':St->XK}(I:Inv X Y U H s)(hstk:X.stack=X.env::X.outer)(hfr:X.env.frame=some X.env.locals)
  (hb:∀ xe,ET (X.fB Y xe) E'->PassesOwn (model X.prog X.w) X.A X.env xe->wpAny (model X.prog X.w) X.A (execs body X.env) (SP (X.fB Y xe) [] D) xe s)
  (hh:∀ (U:St) (H:Hp) (s:Shared) (e C:Addr) (dx:Option Addr) (fs:List (Str×V)) (T:Addr),Inv X Y U H s->H e=some (.exc C dx fs false)->X.s₀.heap.objs.size<=T->H T=none->(∀ p ∈ X.pn++Y,p.1≠T)->yE s.heap e T .none->E' U e H->
   wpAny (model X.prog X.w) X.A (handleBy (.ref e) X.env (h0::hs)) (SP X Y D) X.xe s):
  wpAny (model X.prog X.w) X.A (exec (.Try body (h0::hs) [] [] pos) X.env) (SP X Y D) X.xe s:=by
 refine wpAny_Try_except (wpAny_mono (hb (λu s1=>wpAny (model X.prog X.w) X.A (noteFrame u X.env) (λ_ s2=>wpAny (model X.prog X.w) X.A (setFlight u none) (λ_ s3=>wpAny (model X.prog X.w) X.A (handleBy u X.env (h0::hs)) (SP X Y D) X.xe s3) X.xe s2) X.xe s1) ?_ PassesOwn.looking) (λf s1 h1=>?_) λ_ _ z=>z)
 .intro σ' H' s' e C dx fs J sf he q;exact lh (X:=X.fB Y _) J hstk hfr sf he λs2 T J2 _ hT hH hp st=>hh σ' H' s2 e C dx fs T (J2.fm I.ok) he hT hH hp st q
 .have h2:=SP.fm I.ok h1;cases f with
  |next=>exact wpAny_execs_nil h2
  |brk=>exact h2
  |cont=>exact h2
  |ret u=>exact h2
def nW {n x:Str}{np hpos:Pos}{b0:Stmt}{bB:List Stmt}{rest:List ExceptHandler}{i:Nat}{e C Ch T:Addr}{fs:List (Str×V)}{b:Bool}(I:Inv X Y U H s)(he:H e=some (.exc C dx fs false))
  (hT:X.s₀.heap.objs.size<=T) (hH:H T=none) (hp:∀ p ∈ X.pn++Y,p.1≠T) (st:yE s.heap e T .none) (c:cz X.K C) (ch:cz X.K Ch) (hsub:W.mroIn X.K C (.ref Ch)=some b) (hg:Gl X x) (hm:X.mg x=some (.ref Ch))
  (hN:X.N.Nodup) (hi:X.N[i]? =some n) (hn:X.env.scope.names.lookup n=some .local) (hdb:(x ==("__debug__":Str))=false)
  (yes:b=true->∀ s2,Inv (X.bB (.ref e)) Y (U.set i (some (.ref e))) H s2->wpAny (model X.prog X.w) (X.A.mark (some (.ref e))) (execs (b0::bB) X.env)
   (SP (X.bB (.ref e)) Y { nx:=λσ' H'=>D.nx (σ'.set i none) H',rt:=D.rt,bk:=λσ' H'=>D.bk (σ'.set i none) H',ct:=λσ' H'=>D.ct (σ'.set i none) H' }) (λ_ _=>False) s2)
  (no:b=false->wpAny (model X.prog X.w) X.A (handleBy (.ref e) X.env rest) (SP X Y D) X.xe s):
  wpAny (model X.prog X.w) X.A (handleBy (.ref e) X.env (.ExceptHandler (some (.Name x np)) (some n) (b0::bB) hpos::rest)) (SP X Y D) X.xe s:=by
 have I':=I.bB (.ref e);refine wpAny_handleBy_cons (codeAny_handlers_test (bw (X:=X.bB (.ref e)) I' hg hm ?_ hdb)) (by intro q;cases q);obtain⟨⟨vs,ho,hsz,h1⟩,z⟩:=id (I.hok e _ he);have L0:Looks (model X.prog X.w) s.heap (typeOf (.ref e)) (.ref C):=(Looks.ld ho).andThen .now;have L1:Looks (model X.prog X.w) s.heap (typeOf (.ref Ch)) (.type "type"):=looks_typeIn I.bO ch.mt;have L2':Looks (model X.prog X.w) s.heap (isInstance (.ref Ch) (.type "tuple")) false:=L1.andThen (Looks.of_pure tc_notTuple);have L3:Looks (model X.prog X.w) s.heap (isType (.ref Ch)) true:=by
  obtain⟨cd,rs,hcl,_⟩:=ch.mro;unfold W.clsIn at hcl
  split at hcl
  .rename_i ho';intro A' Q' E' s' k q;unfold isType loadHead;exact ad (wpAny_loadPart (k _ _ (I.bO _ _ ho')) (am q))
  .cases hcl
 have L4:Looks (model X.prog X.w) s.heap (isSubtype (.ref Ch) (.type "BaseException")) true:=looks_mroIn I.bO (ch.sub (by decide+kernel));have L5:Looks (model X.prog X.w) s.heap (isSubtype (.ref C) (.ref Ch)) b:=looks_mroIn I.bO hsub;have L6:Looks (model X.prog X.w) s.heap (isExcClass (.ref Ch)) true:=by
  unfold isExcClass;exact L3.andThen L4
 unfold excMatches;refine ad (L2'.here ?_);rw[if_neg (by decide)];refine ad (am ?_);simp only[forIn_cons,forIn_nil];refine ad (ad (ad (L6.here ?_)));rw[if_neg (by decide)];refine am ?_;refine am ?_;refine ad (L0.here ?_);refine ad (ad (ad (L5.here ?_)));cases b with
 |false=>
  rw[if_neg (by decide)];refine am ?_;refine am ?_;refine am ?_;exact no rfl
 |true=>
  rw[if_pos rfl];refine am ?_;refine am ?_;refine am ?_;refine codeAny_handlers_suite_as (sC st λh2 nB oth _ th2 _=>?_);have I2:Inv X Y U H { s with heap:=h2 }:=by
   refine Inv.turned (it:=T) (h':=h2) (t':=s.toks) I (λb o hb hq=>(oth b hb).trans hq) hH ?_ (.inr hT) (λy cc hc z=>?_) hp
   .intro z;obtain⟨m,⟨o,es,ep,ho',hd,_⟩,_⟩:=I.loc;obtain⟨_,_,oT,ts,_,_,_,_,hT2,hd2,_⟩:=st;rw[z,ho']at hT2;cases hT2;rw[hd]at hd2;cases hd2
   .obtain⟨v,o,ho',hd⟩:=I.cell y cc hc;obtain⟨_,_,oT,ts,_,_,_,_,hT2,hd2,_⟩:=st;rw[<-z,ho']at hT2;cases hT2;rw[hd]at hd2;cases hd2
  refine a7 (X:=X.bB (.ref e)) (I2.bB (.ref e)) hN hi (.inl hn) (v:=.ref e) rfl (λs3 I3=>?_) (.inr hn);refine wpAny_mono (yes rfl s3 I3) (λf s4 h4=>?_) λ_ _ z=>z.elim
  cases f with
  |next=>
   obtain⟨σ',H',J,q⟩:=h4;exact ei (J.jg I.ok) hN hi hn λs5 J5=>⟨_,H',J5,q⟩
  |brk=>
   obtain⟨σ',H',J,q⟩:=h4;exact ei (J.jg I.ok) hN hi hn λs5 J5=>⟨_,H',J5,q⟩
  |cont=>
   obtain⟨σ',H',J,q⟩:=h4;exact ei (J.jg I.ok) hN hi hn λs5 J5=>⟨_,H',J5,q⟩
  |ret u=>
   obtain⟨v,σ',H',J,r,q⟩:=h4;exact ei (J.jg I.ok) hN hi hn λs5 J5=>⟨v,_,H',J5,r,q⟩
end
end L2
namespace L2
open PySem PySem.Spec PyProof.Rows
def DG:bootBuiltins "isinstance"=some (.builtin "isinstance"):=by decide+kernel
section
variable {X:Cx}
abbrev Fn (K:W.Frag):V->V->Hp->VK->Prop:=λx y H Q=>∃ p xs i v,x=.ref p/\y=.int i/\aY K H p xs/\0<=i/\xs[i.toNat]? =some v/\Q v H
def xY:Cz X (Fn X.K):=by
 intro Y s U H o i ov iv Q I ro ri h;obtain⟨p,xs,k,z,rfl,rfl,hq,h0,he,q⟩:=h;cases ro;obtain⟨t,rfl⟩:=ri;obtain⟨its,r,pl,hz⟩:=I.list hq;obtain⟨w,ew,rw'⟩:=r.get he;have hl:k.toNat<xs.length:=(sn.mp he).1;have hn:=gY;exact wpAny_getItem_list pl.isList h0 nofun (by simpa using ew) ⟨z,H,I,rw',q⟩
def eo {xs:List V}{us:List Value}(r:Vals xs us){j:Nat}(h:j<us.toArray.size):∃ x,xs[j]? =some x/\RelV x (us.toArray[j]):=by
 have hl:=r.length;have hj:j<us.length:=by simpa using h
 have e:xs[j]? =some xs[j]:=le nofun;obtain⟨u,h1,h2⟩:=r.get e;refine⟨_,e,?_⟩;rw[le hj]at h1;cases h1;simpa using h2
end
section
variable {U:St}{H:Hp}{Q:VK}{D:Ends}{K:W.Frag}
abbrev sD (x:V)(H:Hp)(R:Bool->Hp->Prop):Prop:=∃ k,x=.bl k/\R k H
def dB {α:Type}{xs:List α}{i:Int}(h0:0<=i)(h1:i<xs.length):∃ v,kx xs i=some v/\v ∈ xs:=by
 obtain⟨n,rfl⟩:=Int.eq_ofNat_of_zero_le h0;have hn:n<xs.length:=by omega
 exact⟨xs[n],ml (le hn),getElem_mem hn⟩
end
section
variable {K:W.Frag}{g:TG}{tb:TS}{D:Ends}{U:St}{H:Hp}{tl:TE}{ta:TA}
end
def fits {n:Nat}(h:n<=1000):n<=bn:=Nat.le_of_lt (eg h)
section
variable {X:Cx}{H:Hp}{Q:VK}
end
section
variable {K:W.Frag}
end
section
variable {H H':Hp}{h c p:Addr}{m n:Int}{o:HO}
end
def F6 (ns:List Int)(h:ns.length<=63):nE (ns.map V.int) none (some 63)=ns.map V.int:=by
 have e1:HT.oZ (ns.map V.int).length 0 none=0:=rfl;have e2:HT.oZ (ns.map V.int).length (ns.map V.int).length (some 63)=(ns.map V.int).length:=by
  show(if(63:Int)<0 then((63:Int)+((ns.map V.int).length:Int)).toNat else min (63:Int).toNat (ns.map V.int).length)=(ns.map V.int).length;rw[if_neg (by decide),ce];show min 63 ns.length=ns.length
  omega
 unfold nE;rw[e1,e2,drop_zero,Nat.sub_zero,List.take_length]
variable {ns:List Int}
def qP {i:Nat}{x:V}(h:(ns.map V.int)[i]? =some x):∃ z,x=V.int z:=by
 rw[im]at h;cases e:ns[i]? with
 |none=>rw[e]at h;cases h
 |some z=>rw[e]at h;exact⟨z,(Option.some.inj h).symm⟩
def wD {i:Int}(h0:0<=i)(h1:i<ns.length):∃ z,kx (ns.map V.int) i=some (.int z):=by
 obtain⟨v,a,m⟩:=dB (xs:=ns.map V.int) h0 (by rw[ce];exact h1);obtain⟨z,_,rfl⟩:=List.mem_map.mp m;exact⟨z,a⟩
section
variable {H:Hp}{Q:VK}
end
section
variable {X:Cx}
end
variable {A:Around}{E:KD}{s:Shared}
def Cd {α:Type}{t:Sem α}{Q Q':α->Shared->Prop}{M:Model}(h:wpAny M A t Q (λ_ _=>False) s) (hQ:∀ a s,Q a s->Q' a s):wpAny M A t Q' E s:=wpAny_mono h hQ λ_ _ x=>x.elim
abbrev eK (X:Cx)(scope:Scope)(cl:List (Str×Addr))(N:List Str)(s:Shared)(H:Hp)(fp:List Addr):Cx:=
 { X with N:=N,s₀:=s,H₀:=H,env:=compEnvC scope cl s.heap.objs.size X.env,outer:=X.stack,stack:=X.stack,ex:=fp,fn:=λ_=>false,pn:=[],xe:=λ_ _=>False }
structure bc (X:Cx) (scope:Scope) (cl:List (Str×Addr)) (xs:List Str) (fr:List Str) (sel:List Nat):Prop where
 clos:closureFor scope X.env=pure cl
 sub:∀ y c,cl.lookup y=some c->X.env.cells.lookup y=some c
 has:∀ y,((relabel scope X.env).names.lookup y=some .cell\/(relabel scope X.env).names.lookup y=some .free)->∃ c,cl.lookup y=some c
 kind:scope.kind=.function
 nocell:∀ y ∈ scope.names,y.2≠.cell
 names:∀ y ∈ scope.names,y.2=.local->scope.names.lookup y.1=some .local
 own:∀ x ∈ xs,scope.names.lookup x=some .local
 len:sel.length=fr.length
 out:∀ (j:Nat) (y:Str),fr[j]? =some y->∃ i,sel[j]? =some i/\X.N[i]? =some y/\X.env.scope.names.lookup y=some .cell/\(relabel scope X.env).names.lookup y=some .cell
 nd:(xs++fr).Nodup
abbrev ja (U:St)(sel:List Nat):St:=sel.map λi=>U.getD i none
abbrev LC (te:TE)(J:It)(σ₀:St)(H1:Hp)(Q:VK):Prop:=∀ D,H1 D=none->∃ W:Nat->Nat->St->Hp->Prop,(∃ m,W 0 m σ₀ (upd H1 D (.lst [])))/\∀ i m σ' H',W i m σ' H'->
 (J.stop i H'/\Q (.ref D) H')\/(J.go i H'/\∃ N:St->Hp->Prop,(∀ σ2 H2,N σ2 H2->∃ m',m'<m/\W (i+1) m' σ2 H2)/\
  ∀ x H'',J.yld i H' x H''->te (σ'.set 0 (some x)) H'' λv H3=>∃ zs,H3 D=some (.lst zs)/\zs.length<bn/\N (σ'.set 0 (some x)) (upd H3 D (.lst (zs++[v]))))
abbrev gate (env:Env):List Expr->Sem Bool
 | []=>pure true
 |c::_=>isTrue c env (eval c env)
variable {ifs:List Expr}{scope:Scope}{pos:Pos}
def sN {M:Model}{elt target iter:Expr}{it acc:Value}{env:Env}{Q:PySem.Fin->Shared->Prop}(hi:ifs.length<=1)
  (h:wpAny M A (pyNext it) (λr s1=>match r with
   |none=>Q (.done .next) s1
   |some v=>wpAny M A (letOwnedTupleGo target it v) (λ_ s2=>wpAny M A (assign target env v) (λ_ s3=>wpAny M A (gate env ifs) (λok s4=>
    (ok=true->wpAny M A (eval elt env) (λx s5=>wpAny M A (call (.builtin "list.append") [acc,x]) (λ_ s6=>wpAny M A (again (.compLoop (.ListComp elt [⟨target,iter,ifs,0⟩] scope pos) 0 it acc env)) Q E s6) E s5) E s4)/\
    (ok=false->wpAny M A (again (.compLoop (.ListComp elt [⟨target,iter,ifs,0⟩] scope pos) 0 it acc env)) Q E s4)) E s3) E s2) E s1) E s):
  wpAny M A (compTurn (.ListComp elt [⟨target,iter,ifs,0⟩] scope pos) 0 it acc env) Q E s:=by
 have key:∀ {g:Sem Bool}{K:Sem PySem.Fin}{s:Shared},wpAny M A g (λok s4=>
    (ok=true->wpAny M A (eval elt env) (λx s5=>wpAny M A (call (.builtin "list.append") [acc,x]) (λ_ s6=>wpAny M A K Q E s6) E s5) E s4)/\
    (ok=false->wpAny M A K Q E s4)) E s->wpAny M A (g >>= λok=>if ok=true then(eval elt env >>= λx=>call (.builtin "list.append") [acc,x] >>= λ_=>pure ()) >>= λ_=>K else K) Q E s:=λ{g K s} h=>by
  refine ad (wpAny_mono h (λok s4 h4=>?_) λ_ _ e=>e);cases ok with
  |false=>exact h4.2 rfl
  |true=>exact ad (ad (wpAny_mono (h4.1 rfl) (λx s5 h5=>ad (wpAny_mono h5 (λ_ s6 h6=>am h6) λ_ _ e=>e)) λ_ _ e=>e))
 match ifs,hi with
 | [],_=>
  rw[compTurn_list1];refine ad (wpAny_standAt (ad (wpAny_mono h (λr s1 h1=>?_) λ_ _ e=>e)));cases r with
  |none=>exact am h1
  |some v=>
   refine ad (wpAny_mono h1 (λ_ s2 h2=>ad (wpAny_mono h2 (λ_ s3 h3=>?_) λ_ _ e=>e)) λ_ _ e=>e);exact key (g:=pure true) h3
 | [c],_=>
  unfold compTurn;simp only[List.getElem?_cons_zero,List.getElem?_cons_succ,List.getElem?_nil];dsimp only[forIn,List.forIn',List.forIn'.loop,forIn'];rw[if_neg (by decide),if_neg (by decide)];refine ad (wpAny_standAt (ad (wpAny_mono h (λr s1 h1=>?_) λ_ _ e=>e)));cases r with
  |none=>exact am h1
  |some v=>
   refine ad (wpAny_mono h1 (λ_ s2 h2=>ad (wpAny_mono h2 (λ_ s3 h3=>?_) λ_ _ e=>e)) λ_ _ e=>e);refine key ?_;rw[if_pos rfl];refine ad (ad (wpAny_mono h3 (λok s4 h4=>am ?_) λ_ _ e=>e));exact am h4
abbrev LCg (tg:TG)(tc:TT)(te:TE)(J:It)(σ₀:St)(H1:Hp)(Q:VK):Prop:=∀ D,H1 D=none->∃ W:Nat->Nat->St->Hp->Prop,(∃ m,W 0 m σ₀ (upd H1 D (.lst [])))/\∀ i m σ' H',W i m σ' H'->
 (J.stop i H'/\Q (.ref D) H')\/(J.go i H'/\∃ N:St->Hp->Prop,(∀ σ2 H2,N σ2 H2->∃ m',m'<m/\W (i+1) m' σ2 H2)/\
  ∀ x H'',J.yld i H' x H''->tg x σ' H'' λσ2 H2=>tc σ2 H2 λb H3=>(b=true->te σ2 H3 λv H4=>∃ zs,H4 D=some (.lst zs)/\zs.length<bn/\N σ2 (upd H4 D (.lst (zs++[v]))))/\(b=false->N σ2 H3))
abbrev yes:TT:=λ_ H Q=>Q true H
variable {te:TE}
def LC.g {J:It}{σ₀:St}{H1:Hp}{Q:VK}(h:LC te J σ₀ H1 Q):LCg (gA 0) yes te J σ₀ H1 Q:=λD hD=>by
 obtain⟨W,w0,turn⟩:=h D hD;refine⟨W,w0,λi m σ' H' w=>?_⟩;rcases turn i m σ' H' w with z|⟨go,N,hN,step⟩
 .exact .inl z
 .exact .inr ⟨go,N,hN,λx H'' y=>⟨λ_=>step x H'' y,λe=>nomatch e⟩⟩
abbrev HN (X:Cx)(ifs:List Expr)(tc:TT):Prop:=ifs.length<=1/\∀ (Y:KG) (s:Shared) (U:St) (H:Hp) (Q:Bool->Hp->Prop),Inv X Y U H s->tc U H Q->wpAny (model X.prog X.w) X.A (gate X.env ifs) (TP X Y U Q) X.xe s
variable {X:Cx}
def mV:HN X [] yes:=⟨Nat.zero_le _,λY s U H Q I q=>am ⟨H,I,q⟩⟩
def Bl {c:Expr}{tc:TT}(h:PT X c tc):HN X [c] tc:=⟨pc _,h⟩
abbrev ot (xs:List Str):St:=xs.map λ_=>none
abbrev JN (wi:TI)(te:TE)(sel:List Nat):TE:=λU H Q=>wi U H λJ H1=>LC te J (none::ja U sel) H1 Q
abbrev Gy (wi:TI)(tg:TG)(tc:TT)(te:TE)(xs:List Str)(sel:List Nat):TE:=λU H Q=>wi U H λJ H1=>LCg tg tc te J (ot xs++ja U sel) H1 Q
variable {cl:List (Str×Addr)}{xs fr:List Str}{sel:List Nat}{fp:List Addr}
section
variable {X:Cx}
def Un.sameBut {fs ex:List Addr}{H H':Hp}{h h1 h2:Heap}{C:Addr}(u:Un fs ex H H' h h1)(hs:Heap.SameBut C h1 h2)(hC:h.objs.size<=C):Un fs ex H H' h h2:=by
 have ne:∀ b o,h.get? b=some o->b≠C:=λb o e=>ol (nl (sK e) hC)
 refine⟨λb o e n hb hx=>(hs.2 b (ne b o e)).trans (u.keep b o e n hb hx),λb o e n hb hx=>?_,u.free,λb o e hx=>?_,u.tups,u.frzs,u.tbls⟩
 .obtain⟨sl,q⟩:=u.slot b o e n hb hx;exact⟨sl,(hs.2 b (ne b o e)).trans q⟩
 .obtain⟨o',q⟩:=u.there b o e hx;exact⟨o',(hs.2 b (ne b o e)).trans q⟩
def oY {Y:KG}{U:St}{H:Hp}{h':Heap}{tk:Nat}{m':KH}
  (S:bc X scope cl xs fr sel) (I:Inv X Y U H s) (f2:∀ b ∈ fp,gQ X Y H b) (fo:∀ b ∈ fp,b<s.heap.objs.size) (hns:h'.Ns s.heap.objs.size m') (keep:∀ b o,s.heap.get? b=some o->h'.get? b=some o):
  Inv (eK X scope cl (xs++fr) s H fp) (X.pn++Y) (ot xs++ja U sel) H { s with heap:=h',toks:=tk }:=by
 have stk:∀ b,b≠X.env.locals->b ∉ X.fs->b ∉ mM X.stack:=λb h1 h2 hb=>(li.mp (I.g6 b hb)).elim h1 h2
 refine⟨⟨I.ok.mod,S.kind,I.ok.glob,I.ok.blt,pc _,λy z c h1 h2=>I.ok.inj y z c (S.sub y c h1) (S.sub z c h2),λy hy=>S.has y hy,(λy c h=>nomatch h),I.ok.hd,I.ok.frames,.inl rfl,λb hb=>⟨ol (fo b hb),λy c h=>(f2 b hb).2.2.2.2.1 y c (S.sub y c h)⟩,I.bs,
  Nat.le_trans I.ok.bsz I.sz,λb o e hb=>?_,λb hb=>stk b (f2 b hb).2.1 (f2 b hb).2.2.1,I.stack,I.mU⟩,
  rfl,I.bare,Un.kept keep,⟨m',hns,λi y v e1 e2 e3=>?_⟩,λy c h=>?_,I.hok.fresh (pc _),λy c h=>I.freeC y c (S.sub y c h),λp hp=>?_,I.hok.kept keep,?_⟩
 .rcases(f2 b hb).2.2.2.1 with z|z
  .exact I.ok.noex b o e z
  .exact absurd (nl (nl (sK e) I.ok.bsz) z) (Nat.lt_irrefl _)
 .have hln:(ot xs).length=xs.length:=ce ..
  by_cases hlt:i<xs.length
  .rw[List.getElem?_append_left (by rw[hln];exact hlt)]at e2;unfold ot at e2;rw[im,le hlt]at e2;cases e2
  .obtain⟨j,rfl⟩:∃ j,i=xs.length+j:=⟨i-xs.length,by omega⟩;have e1':fr[j]? =some y:=by
    have e1:(xs++fr)[xs.length+j]? =some y:=e1;rw[List.getElem?_append_right nofun,show xs.length+j-xs.length=j by omega]at e1;exact e1
   obtain⟨i,hi,hN,k1,k2⟩:=S.out j y e1';have e2':(ja U sel)[j]? =some (some v):=by
    rw[List.getElem?_append_right (by rw[hln];omega),hln,show xs.length+j-xs.length=j by omega]at e2;exact e2
   have e4:U[i]? =some (some v):=by
    unfold ja at e2';rw[im,hi]at e2';have e5:U.getD i none=some v:=Option.some.inj e2';rw[List.getD_eq_getElem?_getD]at e5;cases e6:U[i]? with
    |none=>rw[e6]at e5;cases e5
    |some z=>rw[e6]at e5;exact congrArg some e5
   obtain⟨m,hn,hl⟩:=I.loc;obtain⟨u,r,l⟩:=hl i y v hN e4 (.inr (.inl k1));refine⟨u,r,.inr ⟨.inl k2,?_⟩⟩;rcases l with⟨hk,_⟩|⟨_,c,hc,o,ho,hd⟩
   .have hk':X.env.scope.names.lookup y=some .local:=hk;rw[k1]at hk';cases hk'
   .obtain⟨c',hc'⟩:=S.has y (.inl k2);have:=(S.sub y c' hc').symm.trans hc;cases this;exact⟨c,hc',o,keep c o ho,hd⟩
 .obtain⟨v,o,ho,hd⟩:=I.cell y c (S.sub y c h);exact⟨v,o,keep c o ho,hd⟩
 .obtain⟨e,n,ne,nf,d⟩:=I.pin p (by simpa[eK] using hp);exact⟨keep p.1 p.2 e,n,ol (sK e),stk p.1 ne nf,d⟩
 .show(ot xs++ja U sel).length=(xs++fr).length;unfold ja ot;simp[S.len]
def tR {elt iter tgt:Expr}{wi:TI}{tg:TG}{tc:TT}(hc:X.calm=true)(S:bc X scope cl xs fr sel)(hi:PI X tgt iter wi)
  (hg:∀ (s:Shared) (H:Hp) (fp:List Addr),PG (eK X scope cl (xs++fr) s H fp) tgt tg) (ht:∀ (s:Shared) (H:Hp) (fp:List Addr),HN (eK X scope cl (xs++fr) s H fp) ifs tc)
  (he:∀ (s:Shared) (H:Hp) (fp:List Addr),PE (eK X scope cl (xs++fr) s H fp) elt te) (hs:∀ x,foldedSetIterable iter X.env x=pure x):PE X (.ListComp elt [⟨tgt,iter,ifs,0⟩] scope pos) (Gy wi tg tc te xs sel):=by
 intro Y s U H Q I h;rw[eval_ListComp];refine wpAny_comprehension_free (use:=none) rfl hs S.clos S.kind S.names ?_;refine aw (hi Y s U H _ I h) λv s1 h1=>aw h1 λitv s2 h2=>?_
 obtain⟨it,fp,tn,J,H2,e,I2,T,nB,f2,h2⟩:=h2;subst e;refine wpAny_newObj_type ?_;have hD:H2 s2.heap.objs.size=none:=I2.hok.fresh (pc _);have I3:Inv X Y U (upd H2 s2.heap.objs.size (.lst [])) { s2 with heap:=s2.heap.push { cls:=.type "list",dict:=none,data:=.seq ([]:List Value).toArray } }:=
  I2.laid (t':=s2.toks) (λb u e=>sw _ e) (pc _) ⟨Nat.zero_le _,[],0,.nil,tz _ rfl⟩
 have fo2:∀ b ∈ fp,b<s2.heap.objs.size:=λb hb=>by
  obtain⟨o,ho,_⟩:=T.obj _ _ nB b hb;exact sK ho
 have f3:∀ b ∈ fp,gQ X Y (upd H2 s2.heap.objs.size (.lst [])) b:=λb hb=>⟨by rw[af (ol (fo2 b hb))];exact(f2 b hb).1,(f2 b hb).2⟩
 have st3:tn 0 (s2.heap.push { cls:=.type "list",dict:=none,data:=.seq ([]:List Value).toArray }):=T.keep _ _ _ nB λb hb o e=>sw _ e
 have fo3:∀ b ∈ fp,b<(s2.heap.push { cls:=.type "list",dict:=none,data:=.seq ([]:List Value).toArray }).objs.size:=λb hb=>by
  rw[Heap.size_push];exact Nat.lt_succ_of_lt (fo2 b hb)
 obtain⟨W,⟨m0,w0⟩,turn⟩:=h2 _ hD;generalize s2.heap.objs.size=D at*;generalize hs3:({ s2 with heap:=s2.heap.push { cls:=.type "list",dict:=none,data:=.seq ([]:List Value).toArray } }:Shared)=s3 at*;have st3':tn 0 s3.heap:=by rw[<-hs3];exact st3
 have fo3':∀ b ∈ fp,b<s3.heap.objs.size:=by rw[<-hs3];exact fo3
 refine wpAny_newFunctionEnv S.nocell (by intro y hy;simp at hy) (λh' hns hsb=>?_) S.kind;have keep:∀ b o,s3.heap.get? b=some o->h'.get? b=some o:=λb o e=>(hsb.2 b (ol (sK e))).trans (sw _ e)
 have I4:=oY (tk:=s3.toks+([]:List (Str×Value)).length) S I3 f3 fo3' hns keep;have st4:tn 0 h':=T.keep _ _ _ st3' λb hb o e=>keep b o e
 have stat:∀ {H':Hp},(∀ b ∈ fp,H' b=none)->∀ b ∈ fp,gQ (eK X scope cl (xs++fr) s3 (upd H2 D (.lst [])) fp) (X.pn++Y) H' b:=λ{H'} hn b hb=>
  ⟨hn b hb,ol (fo3' b hb),λz=>(li.mp (I3.g6 b z)).elim (f3 b hb).2.1 (f3 b hb).2.2.1,.inl hb,λy c hy=>(f3 b hb).2.2.2.2.1 y c (S.sub y c hy),λp hp=>(f3 b hb).2.2.2.2.2 p (by simpa[eK] using hp)⟩
 have loop:codeAny (model X.prog X.w) X.A (.compLoop (.ListComp elt [⟨tgt,iter,ifs,0⟩] scope pos) 0 (.ref it) (.ref D) (compEnvC scope cl s3.heap.objs.size X.env))
   (compPost (model X.prog X.w) X.A X.xe none (EP X Y U Q) (.ref D) s3.heap.objs.size) { s3 with heap:=h',toks:=s3.toks+([]:List (Str×Value)).length }:=by
  refine codeAny_loop rfl (λn s'=>∃ i σ' H',Inv (eK X scope cl (xs++fr) s3 (upd H2 D (.lst [])) fp) (X.pn++Y) σ' H' s'/\tn i s'.heap/\(∀ b ∈ fp,H' b=none)/\W i n σ' H') (λn s5 hI=>?_) m0 ⟨0,_,_,I4,st4,λb hb=>(f3 b hb).1,w0⟩;show wpAny _ _ ((compTurn (.ListComp elt [⟨tgt,iter,ifs,0⟩] scope pos) 0 (.ref it) (.ref D) (compEnvC scope cl s3.heap.objs.size X.env)).onRaise (λx=>do noteFrame x (compEnvC scope cl s3.heap.objs.size X.env);theTreesLotGoes x)) _ _ s5;refine wpAny_noted ?_;refine sN (ht s3 (upd H2 D (.lst [])) fp).1 ?_;obtain⟨i,σ5,H5,I5,st5,fr5,w5⟩:=hI;rcases turn i n σ5 H5 w5 with⟨stop,q⟩|⟨go,Nn,hN,step⟩
  .refine aw (T.done (eK X scope cl (xs++fr) s3 (upd H2 D (.lst [])) fp) rfl rfl rfl hc i _ s5 σ5 H5 _ I5 (stat fr5) st5 stop) λr s6 ⟨hr,I6⟩=>?_
   subst hr;obtain⟨m,hn,_⟩:=I6.loc;refine⟨m,hn,λh'' hs''=>⟨.ref D,H5,I3.vV (ch:=fp) I6.os (I6.base.sameBut hs'' (pc _)) (λb ob e=>?_) I6.bare λb hb=>⟨(f3 b hb).2.2.2.1,(f3 b hb).2.1,(f3 b hb).2.2.2.2.1,(f3 b hb).2.2.2.2.2⟩,rfl,q⟩⟩;refine(I6.hok b ob e).eC (λc w' hc' q'=>(hs''.2 c ?_).trans q') (λ_ q'=>q') λ_ _ q'=>q'
   have fC:H5 s3.heap.objs.size=none:=I6.free;intro z;rcases hc' with z2|z2
   .rw[z2]at z;rw[z,fC]at e;cases e
   .rw[z,fC]at z2;cases z2
  .have fin:∀ {σ8:St}{H10:Hp}{s10:Shared},Inv (eK X scope cl (xs++fr) s3 (upd H2 D (.lst [])) fp) (X.pn++Y) σ8 H10 s10/\tn (i+1) s10.heap/\(∀ b ∈ fp,H10 b=none)->Nn σ8 H10->∃ m',m'<n/\∃ i σ' H',Inv (eK X scope cl (xs++fr) s3 (upd H2 D (.lst [])) fp) (X.pn++Y) σ' H' s10/\tn i s10.heap/\(∀ b ∈ fp,H' b=none)/\W i m' σ' H':=λ⟨I,t,f⟩ nn=>by
    obtain⟨m',hm,w10⟩:=hN _ _ nn;exact⟨m',hm,i+1,_,_,I,t,f,w10⟩
   refine aw (T.item (eK X scope cl (xs++fr) s3 (upd H2 D (.lst [])) fp) rfl rfl rfl hc i _ s5 σ5 H5 _ I5 (stat fr5) st5 go) λr s6 ⟨u,hr,h6⟩=>?_
   subst hr;refine aw h6 λ_ s7 ⟨xv,H7,I7,r7,y7,st7,fr7⟩=>?_
   have I7':=I7.pinned (stat fr7) (T.obj _ _ st7);refine Cd (hg s3 _ fp _ s7 σ5 H7 xv u _ I7' r7 (step xv _ y7)) λ_ s8 ⟨σ8,H8,I8,q8⟩=>?_
   refine Cd ((ht s3 _ fp).2 _ s8 σ8 H8 _ I8 q8) λok s9 ⟨H9,I9,q9⟩=>?_
   have back:∀ {H10:Hp}{s10:Shared},Inv (eK X scope cl (xs++fr) s3 (upd H2 D (.lst [])) fp) _ σ8 H10 s10->Inv (eK X scope cl (xs++fr) s3 (upd H2 D (.lst [])) fp) (X.pn++Y) σ8 H10 s10/\tn (i+1) s10.heap/\(∀ b ∈ fp,H10 b=none):=λ{H10 s10} I10=>⟨I10.dY,T.keep _ _ _ st7 λb hb o e=>(I10.pin (b,o) (ii _ (ii _ (bH hb e)))).1,λb hb=>by
    obtain⟨o,e,d⟩:=T.obj _ _ st7 b hb;exact(I10.pin (b,o) (ii _ (ii _ (bH hb e)))).2.1⟩
   refine⟨λek=>?_,λek=>am ⟨rfl,fin (back I9) (q9.2 ek)⟩⟩;refine Cd (he s3 _ fp _ s9 _ _ _ I9 (q9.1 ek)) λuv s10 ⟨vv,H10,I10,r10,zs,hz,hzl,n10⟩=>?_
   refine Cd (gS (X:=eK X scope cl (xs++fr) s3 (upd H2 D (.lst [])) fp) _ s10 _ H10 (.ref D) [vv] (.ref D) [uv] (λ_ H'=>H'=upd H10 D (.lst (zs++[vv]))) I10 rfl (.cons r10 .nil) ⟨D,zs,vv,rfl,rfl,hz,hzl,rfl⟩) λ_ s11 ⟨_,H11,I11,_,e11⟩=>?_
   subst e11;exact am ⟨rfl,fin (back I11) n10⟩
 exact codeAny_compStart_list loop (T.self _ 0 _ _ _ st4 loop)
def qR {x:Str}{px:Pos}{H:Hp}(S:bc X scope cl [x] fr sel):PG (eK X scope cl ([x]++fr) s H fp) (.Name x px) (gA 0):=fR S.nd rfl (.inl (lookup_relabel_local (S.own x (lf ..)))) (.inr (lookup_relabel_local (S.own x (lf ..))))
abbrev J8 (wi:TI):TI:=λU H R=>∃ R0:It->Hp->Prop,wi U H R0/\∀ J H,R0 J H->R J H
def PI.up {tg iter:Expr}{wi:TI}(h:PI X tg iter wi):PI X tg iter (J8 wi):=λY s U H R I ⟨R0,q,m⟩=>
 aw (h Y s U H R0 I q) λv s1 h1=>wpAny_mono h1 (λitv s2 ⟨it,fp,tn,J,H',e,I,T,t0,f,r⟩=>⟨it,fp,tn,J,H',e,I,T,t0,f,m _ _ r⟩) λ_ _ e=>e
def wV {elt iter:Expr}{x:Str}{px:Pos}{wi:TI}(hc:X.calm=true)(S:bc X scope cl [x] fr sel)(hi:PI X (.Name x px) iter wi)
  (he:∀ (s:Shared) (H:Hp) (fp:List Addr),PE (eK X scope cl (x::fr) s H fp) elt te) (hs:∀ x,foldedSetIterable iter X.env x=pure x):PE X (.ListComp elt [⟨.Name x px,iter,[],0⟩] scope pos) (JN wi te sel):=λY s U H Q I h=>
 tR (tg:=gA 0) hc S hi.up (λs H fp=>qR S) (λ_ _ _=>mV) he hs Y s U H Q I ⟨_,h,λ_ _ q=>q.g⟩
end
section
variable {U:St}{H:Hp}{Q:VK}{te tl:TE}{ta:TA}{sel:List Nat}{σ₀ rest:St}{K:W.Frag}
end
def c7 {env:Env}:∀ {names:List (Str×NameKind)}{y:Str}{k':NameKind},(names.map λ(n,k)=>if(k ==NameKind.free&&env.scope.kind ==.function&&env.kindOf n ==some .cell) then(n,NameKind.cell) else(n,k)).lookup y=some k'->∃ k,(y,k) ∈ names/\(k'=k\/(k=.free/\k'=.cell))
 | [],_,_,h=>by simp at h
 |(n,k)::r,y,k',h=>by
  rw[map_cons,lookup_cons]at h
  by_cases hc:(k ==NameKind.free&&env.scope.kind ==.function&&env.kindOf n ==some .cell)=true
  .simp only[hc,if_true]at h
   by_cases e:y=n
   .subst e;simp at h;simp at hc;exact⟨k,lf,.inr ⟨hc.1.1,h.symm⟩⟩
   .rw[show(y ==n)=false from beq_eq_false_iff_ne.mpr e]at h;obtain⟨k2,m,q⟩:=c7 (env:=env) h;exact⟨k2,dl _ m,q⟩
  .rw[Bool.not_eq_true]at hc;simp only[hc,Bool.false_eq_true,if_false]at h
   by_cases e:y=n
   .subst e;simp at h;exact⟨k,lf,.inl h.symm⟩
   .simp only[show(y ==n)=false from beq_eq_false_iff_ne.mpr e]at h;obtain⟨k2,m,q⟩:=c7 (env:=env) h;exact⟨k2,dl _ m,q⟩
section
variable {K:W.Frag}
end
section
variable {K:W.Frag}{H:Hp}
end
section
variable {U:St}{H:Hp}{Q:VK}
end
abbrev notStar:Expr->Bool
 | .Starred ..=>false
 |_=>true
variable {es:List Expr}
def ab {e:Expr}{env:Env}(h:notStar e=true):bm (e::es) env=(false,eval e env)::bm es env:=by
 cases e<;>first|rfl|cases h
def jo {e:Expr}{t:TA}(ha:PE X e te)(hr:PA X es t)(h:notStar e=true:=by rfl):PA X (e::es) (BB te t):=AV ha hr (ab h)
section
variable {X:Cx}{Y:KG}{U:St}{H:Hp}{s:Shared}{h':Heap}
def Inv.pD {t':Nat}{ch:List Addr}{a:Addr}{o:HO}(I:Inv X Y U H s)(k:∀ b u,b ∉ ch->s.heap.get? b=some u->h'.get? b=some u) (hf:∀ b ∈ ch,gQ X Y H b)
  (hp:s.heap.objs.size<=a) (new:aC X.prog X.w (upd H a o) h' a o):Inv X Y U (upd H a o) { s with heap:=h',toks:=t' }:=by
 have hn:H a=none:=I.hok.fresh hp;have nch:∀ b u,H b=some u->b ∉ ch:=λb u e z=>by rw[(hf b z).1]at e;cases e
 refine I.step (g':=s.gens) (d':=s.drawn) (ch:=ch) (λb hb=>?_) (λb o _ _ hc e _=>k b o hc e) (λb o _ _ hc e _=>⟨o.slots,k b o hc e⟩) (λb o hc e n=>?_)
  (λb o hc e=>⟨o,k b o hc e⟩) (λb xs e=>?_) (λb ob u e=>?_) (λb ps e=>?_) (λm hm=>?_) (λb u e=>?_) I.bare
 .obtain⟨_,f1,_,f3,f4,f5⟩:=hf b hb;exact⟨f3,f1,f4,f5⟩
 .rw[af (ol (nl (sK e) hp))];exact n
 .rw[af (aL e hn)];exact e
 .rw[af (aL e hn)];exact e
 .exact⟨#[],by rw[af (aL e hn),e];simp⟩
 .obtain⟨o,es,ep,ho,r⟩:=hm;exact⟨o,es,ep,k _ o (λz=>(hf _ z).2.1 rfl) ho,r⟩
 .by_cases hb:b=a
  .subst hb;rw[av]at e;cases e;exact new
  .rw[af hb]at e;refine(I.hok b u e).eC (λc v hc q=>k c v ?_ q) (λc q=>by rw[af (aL q hn)];exact q) λc xs q=>by rw[af (aL q hn)];exact q
   rcases hc with rfl|hc
   .exact nch _ _ e
   .exact nch _ _ hc
end
abbrev GN (l:Addr):It:=
 ⟨λi H=>∃ xs x,H l=some (.lst xs)/\xs[i]? =some x,λi H x H'=>∃ T y,H T=none/\x=.ref T/\H'=upd H T (.tup [.int i,y])/\∀ xs,H l=some (.lst xs)->xs[i]? =some y,λi H=>∃ xs,H l=some (.lst xs)/\xs.length<=i⟩
variable {elts:List Expr}
def uc {P:Program}{w:World}{K:W.Frag}{k:Nat}(l e it:Addr)(hei:e≠it):
  Turn P w K (.Tuple elts k pos) (GN l) [e,it] e (λi h=>(∃ old,IsEnum h e it ((i:Nat):Int) old)/\h.IsListIter it l i) where
 mem:=by simp
 obj:=λi h st b hb=>by
  obtain⟨⟨old,he⟩,hit⟩:=st;rcases li.mp hb with rfl|hb
  .exact⟨_,he,λv z=>by
    have z':Data.fields _=Data.cell v:=z;cases z'⟩
  .have e':b=it:=by simpa using hb
   subst e';obtain⟨o,e,c,d⟩:=hit;exact⟨o,e,λv z=>by rw[d]at z;cases z⟩
 keep:=λi h h' st k=>by
  obtain⟨⟨old,he⟩,hit⟩:=st;exact⟨⟨old,k e (by simp) _ he⟩,hit.at λo q=>k it (by simp) o q⟩
 item:=by
  intro X hP hw hK hc i Y s U H E I hf st hg;subst hP hw hK;obtain⟨xs,x,hq,hx⟩:=hg;obtain⟨⟨old,he⟩,hit⟩:=st;obtain⟨its,rv,p,hz⟩:=I.list (aY.of hq);obtain⟨u,hu,ru⟩:=rv.get hx;have heN:H e=none:=(hf e (by simp)).1;have hes:e≠s.heap.objs.size:=ol (sK he);obtain⟨oi,hoi,_⟩:=id hit;have his:it≠s.heap.objs.size:=ol (sK hoi);refine wpAny_pyNext_enum_item he hit p.isList (x:=u) (by simpa using hu) hei λh1 heo hit1 ht1 hz1 hk1=>?_
  have I1:Inv X Y U (upd H s.heap.objs.size (.tup [.int i,x])) { s with heap:=h1,toks:=s.toks+1 }:=
   I.pD (ch:=[e,it]) (λb o hb q=>hk1 b o (λz=>hb (by simp[z])) (λz=>hb (by simp[z])) q) hf (pc _)
    ⟨fits (nw rfl),[.int i s.toks,u],.cons ⟨_,rfl⟩ (.cons ru .nil),⟨_,ht1,rfl,_,rfl⟩⟩
  refine⟨_,rfl,wpAny_letOwnedTupleGo_enum heo λh2 he2 hs2=>?_⟩;obtain⟨f0,f1,f2,f3,f4,f5⟩:=hf e (by simp);have I2:=I1.turned (h':=h2) (t':=s.toks+1) (it:=e) (λb o hb q=>(hs2.2 b hb).trans q) (by rw[af hes];exact heN) f1 f3 f4 f5;refine⟨.ref s.heap.objs.size,_,I2,rfl,⟨_,x,I.hok.fresh (pc _),rfl,rfl,λys hy=>?_⟩,⟨⟨_,by simpa using he2⟩,hit1.at λo q=>(hs2.2 it hei.symm).trans q⟩,λb hb=>?_⟩
  .rw[hq]at hy;cases hy;exact hx
  .have hb':b≠s.heap.objs.size:=by
    rcases li.mp hb with rfl|hb
    .exact hes
    .have e':b=it:=by simpa using hb
     subst e';exact his
   rw[af hb'];exact(hf b hb).1
 done:=by
  intro X hP hw hK hc i Y s U H E I hf st hg;subst hP hw hK;obtain⟨xs,hq,hx⟩:=hg;obtain⟨⟨old,he⟩,hit⟩:=st;obtain⟨its,rv,p,hz⟩:=I.list (aY.of hq);obtain⟨f0,f1,f2,f3,f4,f5⟩:=hf it (by simp);have hl:=rv.length;exact wpAny_pyNext_enum_end (I.ok.hd hc) he hit p.isList (by simp;omega) λh' eb=>⟨rfl,I.turned (t':=s.toks) (λb o hb q=>eb b o hb q) f0 f1 f3 f4 f5⟩
 self:=λ_ _ _ _ _ st h=>by
  obtain⟨⟨old,he⟩,hit⟩:=st;exact wpAny_pyIter_enum he h
def lY:bootBuiltins "enumerate"=some (.type "enumerate"):=by decide+kernel
abbrev G0 (ta:TA):TI:=λU H R=>ta U H λvs H1=>∃ l,vs=[.ref l]/\(∃ xs,H1 l=some (.lst xs))/\R (GN l) H1
def zG {k:Nat}{a:Expr}{ta:TA}{p pos':Pos}(hg:Gl X "enumerate") (hm:X.mg "enumerate"=none) (ha:PA X [a] ta) (hs:bm [a] X.env=[(false,eval a X.env)]:=by rfl):
  PI X (.Tuple elts k pos') (.Call (.Name "enumerate" p) [a] [] pos) (G0 ta):=by
 intro Y s U H R I h;refine Call_ (cn I hg hm lY (PyProof.Rows.callWith_type1 (aw (ha pos Y s U H _ I h) λus s1 ⟨vs,H1,I1,r1,q1⟩=>?_) hs rfl));obtain⟨l,e,⟨xs,hl⟩,q⟩:=q1;subst e;cases r1 with
 |cons r rr=>
  cases rr;cases r;obtain⟨z,its,n,r,hlen,e⟩:=I1.qi hl;refine call_enumerate_1 e λh' he hit hsz hk=>?_
  refine wpAny_pyIter_enum he ?_;refine⟨s1.heap.objs.size+1,[s1.heap.objs.size+1,s1.heap.objs.size],_,_,H1,rfl,I1.kept (t':=s1.toks) hk,uc l _ _ (Nat.succ_ne_self _),⟨⟨_,he⟩,hit⟩,λb hb=>?_,q⟩;have hb':s1.heap.objs.size<=b:=by
   rcases li.mp hb with rfl|hb
   .exact Nat.le_succ _
   .have e':b=s1.heap.objs.size:=by simpa using hb
    exact Nat.le_of_eq e'.symm
  exact I1.uS hb' (I1.hok.fresh hb')
section
variable {g:TG}{tb:TS}{D:Ends}{U:St}{H:Hp}{ta:TA}
end
section
variable {X:Cx}
end
section
variable {K:W.Frag}{r:V->List V->Hp->VK->Prop}{to:TE}{t:TA}{U:St}{H:Hp}{Q:VK}
end
section
variable {H H1 H2:Hp}{p h c:Addr}{o:HO}{m:Int}
end
section
variable {H H':Hp}{xs ys:List V}{f:Nat->Int×Int}
end
section
variable {X:Cx}{a b c d:Expr}{ta tb tc td:TE}{pos:Pos}
abbrev zl (r r' r2:R2)(ta tb tc td:TE):TE:=λU H Q=>ta U H λx H1=>tb U H1 λy H2=>r x y H2 λz H3=>sD z H3 λk H3=>
 (if k=true then tc U H3 λw' H4=>r' y w' H4 λz' H5=>sD z' H5 λk' H5=>(if k'=true then td U H5 λw2 H6=>r2 w' w2 H6 Q else Q (.bl false) H5) else Q (.bl false) H3)
def uw {op op' op2:CmpOp}{r r' r2:R2}(ho:cy X (compareOp op) r)(ho':cy X (compareOp op') r')(ho2:cy X (compareOp op2) r2)(ha:PE X a ta)(hb:PE X b tb)(hc:PE X c tc)(hd:PE X d td)
  (hm:lastMarks [op,op',op2] [b,c,d]=false:=by with_unfolding_all rfl):PE X (.Compare a [op,op',op2] [b,c,d] pos) (zl r r' r2 ta tb tc td):=by
 intro Y s U H Q I h;refine Compare_chain (aw (ha Y s U H _ I h) λv s1 ⟨x,H1,I1,r1,q1⟩=>chain_link (aw (hb Y s1 U H1 _ I1 q1) λu s2 ⟨y,H2,I2,r2',q2⟩=>
  aw (ho Y s2 U H2 x y v u _ I2 r1 r2' q2) λd s3 ⟨z,H3,I3,r3,k,e,q3⟩=>?_)) hm
 subst e;cases r3;refine bi ?_;cases k with
 |false=>exact ite_ff ⟨.bl false,H3,I3,rfl,q3⟩
 |true=>
  refine ite_tt (chain_link (aw (hc Y s3 U H3 _ I3 q3) λw' s4 ⟨z',H4,I4,r4,q4⟩=>aw (ho' Y s4 U H4 y z' u w' _ I4 r2' r4 q4) λd2 s5 ⟨z2,H5,I5,r5,k2,e2,q5⟩=>?_));subst e2;cases r5;refine bi ?_;cases k2 with
  |false=>exact ite_ff ⟨.bl false,H5,I5,rfl,q5⟩
  |true=>exact ite_tt (chain_last (aw (hd Y s5 U H5 _ I5 q5) λw2 s6 ⟨z3,H6,I6,r6,q6⟩=>ho2 Y s6 U H6 z' z3 w' w2 Q I6 r4 r6 q6))
end
section
variable {K:W.Frag}{U:St}{H:Hp}{Q:VK}{ta tb tc td tv:TE}{t:TA}{f m:Str}{D:Ends}{C:Addr}{sp:Sp}{dvs:List V}{E:XK}
end
section
variable {g:TG}{tb:TS}{D:Ends}{U:St}{H:Hp}{ta:TA}
end
section
variable {C:Addr}{H H':Hp}{S D h c:Addr}{rs:List Rec}{r:Rec}
end
section
variable {X:Cx}
end
end L2
namespace L2
end L2
namespace L2
open PySem PySem.Spec PyProof.Rows
section
variable {C:Addr}{H HF:Hp}{S D h c:Addr}{rs:List Rec}{r':Rec}
end
section
variable {X:Cx}
end
structure IE (K:W.Frag) (C:Addr):Prop where
 ha:W.findIn K (.ref C) "__class__"=some (some (.builtin "object.__class__"))
 hn:W.specialIn K (.builtin "object.__class__") "__get__"=some (some (.builtin "getset_descriptor.__get__"))
 htk:W.takesIn K (.builtin "object.__class__")=some true
 hm:W.mroIn K C (.type "object")=some true
end L2
namespace L2
open PySem PySem.Spec PySem.W PyProof.Rows
abbrev aW (tp:Bool)(h:Heap)(j b:Addr)(k:Nat):Prop:=match tp with
 |true=>h.IsTupleIter j b k
 |false=>h.IsListIter j b k
abbrev bC (tp:Bool)(h:Heap)(b:Addr)(xs:Array Value):Prop:=match tp with
 |true=>h.IsTuple b xs
 |false=>h.IsList b xs
variable {tp:Bool}{h:Heap}{k:Nat}
def aW.to {h':Heap}{j b:Addr}(g:aW tp h j b k)(e:∀ o,h.get? j=some o->h'.get? j=some o):aW tp h' j b k:=by
 cases tp
 .obtain⟨o,e1,r⟩:=(show h.IsListIter j b k from g);exact⟨o,e o e1,r⟩
 .obtain⟨o,e1,r⟩:=(show h.IsTupleIter j b k from g);exact⟨o,e o e1,r⟩
def bC.to {h':Heap}{b:Addr}{xs:Array Value}(g:bC tp h b xs)(e:∀ o,h.get? b=some o->h'.get? b=some o):bC tp h' b xs:=by
 cases tp
 .obtain⟨o,e1,r⟩:=(show h.IsList b xs from g);exact⟨o,e o e1,r⟩
 .obtain⟨o,e1,r⟩:=(show h.IsTuple b xs from g);exact⟨o,e o e1,r⟩
def aW.lt {tp:Bool}{h:Heap}{j b:Addr}{k:Nat}(g:aW tp h j b k):j<h.objs.size:=by
 cases tp
 .obtain⟨o,e1,r⟩:=(show h.IsListIter j b k from g);exact sK e1
 .obtain⟨o,e1,r⟩:=(show h.IsTupleIter j b k from g);exact sK e1
def bC.lt {tp:Bool}{h:Heap}{b:Addr}{xs:Array Value}(g:bC tp h b xs):b<h.objs.size:=by
 cases tp
 .obtain⟨o,e1,r⟩:=(show h.IsList b xs from g);exact sK e1
 .obtain⟨o,e1,r⟩:=(show h.IsTuple b xs from g);exact sK e1
variable {Q:Option Value->Shared->Prop}{c:Addr}{T:Int}{fb:Bool}{oT:Obj}{elts:List Expr}{pos:Pos}
section
variable {prog:Program}{w:World}{A:Around}{E:KD}{s:Shared}
def Df {j b:Addr}{xs:Array Value}{x:Value}{Q:KD}(g:s.heap.IsTupleIter j b k)(t:s.heap.IsTuple b xs)(hx:xs[k]? =some x)
  (q:∀ h',h'.IsTupleIter j b (k+1)->Heap.SameBut j s.heap h'->Q x { s with heap:=h' }):wpAny (model prog w) A (Builtin.SmallTypes.nextOf (.ref j)) Q E s:=by
 obtain⟨o1,e1,c1,d1⟩:=id g;obtain⟨o2,e2,_,n2,d2⟩:=t;unfold Builtin.SmallTypes.nextOf;refine ad (wpAny_callSpecial?_slot (name:=Str.ofString "__next__") g.typeIs F.slot_tuple_iterator_next (wpAny_call_entry F.slot_tuple_iterator_next g.typeIs F.entry_tuple_iterator_next ?_ (F.args_tuple_iterator_next_1 _)));show wpAny _ _ (field (.ref j) 0 >>= _) _ _ s;refine ad (ap e1 d1 (x:=.ref b) rfl ?_);show wpAny _ _ (if(Value.ref b ==Value.none)=true then _ else _) _ _ s;rw[if_neg (show ¬ ((Value.ref b ==Value.none)=true) from Bool.false_ne_true)];show wpAny _ _ (field (.ref j) 1 >>= _) _ _ s;refine ad (ap e1 d1 (x:=.int k 0) rfl ?_);show wpAny _ _ (seqItems? (.ref b) >>= _) _ _ s;refine ad (wpAny_seqItems e2 d2 ?_);simp only[pi,hx];refine ad (wpAny_setField e1 d1 (by simp) (am ⟨x,rfl,am (q _ ?_ (Heap.SameBut.update ..))⟩));refine⟨_,Heap.get?_update_self _ e1 (Obj.isFreed_of_fields (Obj.data_mapFields d1 _)),(Obj.cls_mapFields ..).trans c1,?_⟩;rw[Obj.data_mapFields d1];simp[rawInt]
def Bg {j b:Addr}{xs:Array Value}{Q:KD}(hh:A.handled=none)(g:s.heap.IsTupleIter j b k)(t:s.heap.IsTuple b xs)(hx:xs[k]? =none)
  (q:∀ h' e,Heap.ExtBut j s.heap h'->(∃ o,h'.get? e=some o/\o.cls=.type "StopIteration")->E (.ref e) { s with heap:=h' }):wpAny (model prog w) A (Builtin.SmallTypes.nextOf (.ref j)) Q E s:=by
 obtain⟨o1,e1,c1,d1⟩:=id g;obtain⟨o2,e2,_,n2,d2⟩:=t;unfold Builtin.SmallTypes.nextOf;refine ad (wpAny_callSpecial?_slot (name:=Str.ofString "__next__") g.typeIs F.slot_tuple_iterator_next (wpAny_call_entry F.slot_tuple_iterator_next g.typeIs F.entry_tuple_iterator_next ?_ (F.args_tuple_iterator_next_1 _)));show wpAny _ _ (field (.ref j) 0 >>= _) _ _ s;refine ad (ap e1 d1 (x:=.ref b) rfl ?_);show wpAny _ _ (if(Value.ref b ==Value.none)=true then _ else _) _ _ s;rw[if_neg (show ¬ ((Value.ref b ==Value.none)=true) from Bool.false_ne_true)];show wpAny _ _ (field (.ref j) 1 >>= _) _ _ s;refine ad (ap e1 d1 (x:=.int k 0) rfl ?_);show wpAny _ _ (seqItems? (.ref b) >>= _) _ _ s;refine ad (wpAny_seqItems e2 d2 ?_);simp only[pi,hx];refine ad (wpAny_rule (ad (wpAny_setField e1 d1 (by simp) ?_)));show wpAny _ _ (newExc (.type "StopIteration") [] >>= _) _ _ _;refine ad ?_;simp only[newExc,newTuple];refine ad (wpAny_newObj_type ?_ (by size_fits));refine ad (m:=firstArgMember _ _) (wpAny_of_eq (a:=Value.none) (by first|rfl|(simp only[firstArgMember];rfl)) ?_);refine wpAny_newObj_type ?_ (by size_fits);simp only[raiseNew];refine ad (wpAny_handled ?_);first|rw[show A.in1.handled=none from hh]|rw[hh]
 refine ad (am (wpAny_throw ?_));exact q _ _ (((Heap.SameBut.update ..).extBut.push _).push _) ⟨_,tz _ rfl,rfl⟩
def eA {j b:Addr}{xs:Array Value}{x:Value}{Q:KD}(g:aW tp s.heap j b k)(t:bC tp s.heap b xs)(hx:xs[k]? =some x)
  (q:∀ h',aW tp h' j b (k+1)->Heap.SameBut j s.heap h'->Q x { s with heap:=h' }):wpAny (model prog w) A (Builtin.SmallTypes.nextOf (.ref j)) Q E s:=by
 cases tp
 .exact wpAny_nextOf_list_item g t hx q
 .exact Df g t hx q
def lU {j b:Addr}{xs:Array Value}{Q:KD}(hh:A.handled=none)(g:aW tp s.heap j b k)(t:bC tp s.heap b xs)(hx:xs[k]? =none)
  (q:∀ h' e,Heap.ExtBut j s.heap h'->(∃ o,h'.get? e=some o/\o.cls=.type "StopIteration")->E (.ref e) { s with heap:=h' }):wpAny (model prog w) A (Builtin.SmallTypes.nextOf (.ref j)) Q E s:=by
 cases tp
 .exact wpAny_nextOf_list_end hh g t hx q
 .exact Bg hh g t hx q
@[reducible]def bE (h:Heap) (z TI TO:Addr) (f0 f1:Value):Prop:=h.get? z=some { cls:=.type "zip",dict:=none,data:=.fields #[f0,f1,.bool false,.ref TI,.ref TO],slots:=#[] }
variable {z TI TO i1 i2 l1 l2:Addr}{k1 k2:Nat}{tp1 tp2:Bool}{xs ys:Array Value}{x y a b f1:Value}
def sx (D:ZipApart z TI TO i1 i2 l1 l2)(hz:bE s.heap z TI TO .none f1)(hI:IsPair s.heap TI (.ref i1) (.ref i2))(hO:IsPair s.heap TO a b)
  (g1:aW tp1 s.heap i1 l1 k1) (g2:aW tp2 s.heap i2 l2 k2) (t1:bC tp1 s.heap l1 xs) (t2:bC tp2 s.heap l2 ys) (hx:xs[k1]? =some x) (hy:ys[k2]? =some y)
  (q:∀ h',bE h' z TI TO (rawInt s.heap.objs.size) (.bool false)->IsPair h' TO x y->aW tp1 h' i1 l1 (k1+1)->aW tp2 h' i2 l2 (k2+1)->IsPair h' s.heap.objs.size x y->h'.objs.size=s.heap.objs.size+1->
   (∀ c o,c≠z->c≠TO->c≠i1->c≠i2->s.heap.get? c=some o->h'.get? c=some o)->Q (some (.ref s.heap.objs.size)) { s with heap:=h' }):wpAny (model prog w) A (pyNext (.ref z)) Q E s:=by
 have hZ:s.TypeIs (.ref z) "zip":=⟨_,hz,rfl⟩;unfold pyNext;refine ad (wpAny_attempt (wpAny_callSpecial?_slot (name:=Str.ofString "__next__") hZ F.slot_zip_next (wpAny_call_entry F.slot_zip_next hZ F.entry_zip_next ?_ (F.args_zip_next_1 _))));show wpAny _ _ (field (.ref z) 2 >>= _) _ _ _;refine ad (ap (x:=.bool false) hz rfl rfl ?_);show wpAny _ _ (field (.ref z) 3 >>= _) _ _ _;refine ad (ap (x:=.ref TI) hz rfl rfl ?_);refine ad (wpAny_seqItems hI rfl ?_);show wpAny _ _ (Builtin.SmallTypes.ownedTupleIsFree (.ref z) >>= _) _ _ _;refine ad ?_;unfold Builtin.SmallTypes.ownedTupleIsFree;refine ad (ap (x:=.none) hz rfl rfl (am ?_));simp only[if_true];refine ad (wpAny_rule ?_);refine ad (ap (x:=.ref TO) hz rfl rfl ?_);refine ad (wpAny_setField_rec hz (by simp) λp1 z1 b1=>?_)
 replace z1:bE p1 z TI TO .ellipsis f1:=z1
 refine ad ?_;simp only[List.zipIdx_cons,List.zipIdx_nil,forIn_cons,forIn_nil];refine ad (ad (wpAny_onRaise ?_));show wpAny _ _ (Builtin.SmallTypes.nextOf (.ref i1) >>= _) _ _ _;refine ad (eA (g1.to λo e=>b1.extBut _ o D.i1z e) (t1.to λo e=>b1.extBut _ o D.l1z e) hx λp2 g1b b2=>am ?_);have hO2:IsPair p2 TO a b:=b2.extBut _ _ D.TOi1 (b1.extBut _ _ D.TOz hO);refine ad (wpAny_seqItems hO2 rfl ?_);refine ad (wpAny_updateSeq_pair hO2 λp3 hO3 b3=>?_)
 replace hO3:IsPair p3 TO x b:=hO3
 refine ad (wpAny_letGo (am ?_));refine ad (ad (wpAny_onRaise ?_));show wpAny _ _ (Builtin.SmallTypes.nextOf (.ref i2) >>= _) _ _ _;refine ad (eA (g2.to λo e=>b3.extBut _ o D.TOi2.symm (b2.extBut _ o D.i12.symm (b1.extBut _ o D.i2z e))) (t2.to λo e=>b3.extBut _ o D.l2TO (b2.extBut _ o D.l2i1 (b1.extBut _ o D.l2z e))) hy λp4 g2b b4=>am ?_);have hO4:IsPair p4 TO x b:=b4.extBut _ _ D.TOi2 hO3;refine ad (wpAny_seqItems hO4 rfl ?_);refine ad (wpAny_updateSeq_pair hO4 λp5 hO5 b5=>?_)
 replace hO5:IsPair p5 TO x y:=hO5
 refine ad (wpAny_letGo (am (am ?_)));refine ad (wpAny_seqItems hO5 rfl ?_);refine ad (wpAny_newTuple ?_);have hsz:p5.objs.size=s.heap.objs.size:=by rw[b5.1,b4.1,b3.1,b2.1,b1.1]
 have z5:bE p5 z TI TO .ellipsis f1:=b5.extBut _ _ D.TOz.symm (b4.extBut _ _ D.i2z.symm (b3.extBut _ _ D.TOz.symm (b2.extBut _ _ D.i1z.symm z1)));have k5:∀ c o,c≠z->c≠TO->c≠i1->c≠i2->s.heap.get? c=some o->p5.get? c=some o:=λc o n1 n2 n3 n4 e=>b5.extBut _ _ n2 (b4.extBut _ _ n4 (b3.extBut _ _ n2 (b2.extBut _ _ n3 (b1.extBut _ _ n1 e))))
 have g15:aW tp1 p5 i1 l1 (k1+1):=g1b.to λo e=>b5.extBut _ o D.TOi1.symm (b4.extBut _ o D.i12 (b3.extBut _ o D.TOi1.symm e))
 have g25:aW tp2 p5 i2 l2 (k2+1):=g2b.to λo e=>b5.extBut _ o D.TOi2.symm e
 have zlt:z<p5.objs.size:=sK z5;show wpAny _ _ (Builtin.SmallTypes.ownedTupleHandOut (.ref z) (.ref p5.objs.size) >>= _) _ _ _;refine ad ?_;unfold Builtin.SmallTypes.ownedTupleHandOut;have z6:bE (p5.push { cls:=.type "tuple",data:=.seq #[x,y] }) z TI TO .ellipsis f1:=sw _ z5;refine ad (wpAny_setField_rec z6 (by simp) λp7 z7 b7=>?_)
 replace z7:bE p7 z TI TO (rawInt p5.objs.size) f1:=z7
 refine wpAny_setField_rec z7 (by simp) λp8 z8 b8=>?_
 replace z8:bE p8 z TI TO (rawInt p5.objs.size) (.bool false):=z8
 have up:∀ c o,c≠z->p5.get? c=some o->p8.get? c=some o:=λc o n1 e=>b8.extBut _ _ n1 (b7.extBut _ _ n1 (sw _ e))
 have hT:IsPair p8 p5.objs.size x y:=b8.extBut _ _ (Nat.ne_of_gt zlt) (b7.extBut _ _ (Nat.ne_of_gt zlt) (tz _ rfl));have h8:p8.objs.size=p5.objs.size+1:=by rw[b8.1,b7.1,Heap.size_push]
 rw[hsz]at z8 hT h8;refine am ⟨_,rfl,?_⟩;rw[hsz];exact am (q p8 z8 (up _ _ D.TOz hO5) (g15.to λo e=>up _ o D.i1z e) (g25.to λo e=>up _ o D.i2z e) hT h8 λc o n1 n2 n3 n4 e=>up c o n1 (k5 c o n1 n2 n3 n4 e))
def DF {Q:Fin->Shared->Prop}(hh:A.handled=none)(D:ZipApart z TI TO i1 i2 l1 l2)(hz:bE s.heap z TI TO .none f1)(hI:IsPair s.heap TI (.ref i1) (.ref i2))(hO:IsPair s.heap TO a b)
  (g1:aW tp1 s.heap i1 l1 k1) (g2:aW tp2 s.heap i2 l2 k2) (t1:bC tp1 s.heap l1 xs) (t2:bC tp2 s.heap l2 ys) (hx:xs[k1]? =none\/ys[k2]? =none)
  (q:∀ h' e,(∀ c o,c≠z->c≠TO->c≠i1->c≠i2->s.heap.get? c=some o->h'.get? c=some o)->(∃ o,h'.get? e=some o/\o.cls=.type "StopIteration")->E (.ref e) { s with heap:=h' }):
  wpAny (model prog w) A (Builtin.«zip.__next__» ⟨[.ref z],[]⟩) Q E s:=by
 show wpAny _ _ (field (.ref z) 2 >>= _) _ _ _;refine ad (ap (x:=.bool false) hz rfl rfl ?_);show wpAny _ _ (field (.ref z) 3 >>= _) _ _ _;refine ad (ap (x:=.ref TI) hz rfl rfl ?_);refine ad (wpAny_seqItems hI rfl ?_);show wpAny _ _ (Builtin.SmallTypes.ownedTupleIsFree (.ref z) >>= _) _ _ _;refine ad ?_;unfold Builtin.SmallTypes.ownedTupleIsFree;refine ad (ap (x:=.none) hz rfl rfl (am ?_));simp only[if_true];refine ad (wpAny_rule ?_);refine ad (ap (x:=.ref TO) hz rfl rfl ?_);refine ad (wpAny_setField_rec hz (by simp) λp1 z1 b1=>?_)
 replace z1:bE p1 z TI TO .ellipsis f1:=z1
 refine ad ?_;simp only[List.zipIdx_cons,List.zipIdx_nil,forIn_cons,forIn_nil];refine ad (ad (wpAny_onRaise ?_));show wpAny _ _ (Builtin.SmallTypes.nextOf (.ref i1) >>= _) _ _ _;cases e1:xs[k1]? with
 |none=>
  refine ad (lU hh (g1.to λo e=>b1.extBut _ o D.i1z e) (t1.to λo e=>b1.extBut _ o D.l1z e) e1 λp2 e b2 he=>?_);obtain⟨oe,ho,hc⟩:=he;have z2:bE p2 z TI TO .ellipsis f1:=b2 _ _ D.i1z.symm z1;have ne:e≠z:=λn=>by subst n;rw[z2]at ho;cases ho;simp at hc
  exact wpAny_setField_rec z2 (by simp) λp3 _ b3=>q p3 e (λc o n1 _ n3 _ v=>b3.extBut _ _ n1 (b2 _ _ n3 (b1.extBut _ _ n1 v))) ⟨oe,b3.extBut _ _ ne ho,hc⟩
 |some x=>
  have e2:ys[k2]? =none:=by rcases hx with h|h;(rw[e1]at h;cases h);exact h
  refine ad (eA (g1.to λo e=>b1.extBut _ o D.i1z e) (t1.to λo e=>b1.extBut _ o D.l1z e) e1 λp2 g1b b2=>am ?_);have hO2:IsPair p2 TO a b:=b2.extBut _ _ D.TOi1 (b1.extBut _ _ D.TOz hO);refine ad (wpAny_seqItems hO2 rfl ?_);refine ad (wpAny_updateSeq_pair hO2 λp3 hO3 b3=>?_);refine ad (wpAny_letGo (am ?_));refine ad (ad (wpAny_onRaise ?_));show wpAny _ _ (Builtin.SmallTypes.nextOf (.ref i2) >>= _) _ _ _;refine ad (lU hh (g2.to λo e=>b3.extBut _ o D.TOi2.symm (b2.extBut _ o D.i12.symm (b1.extBut _ o D.i2z e))) (t2.to λo e=>b3.extBut _ o D.l2TO (b2.extBut _ o D.l2i1 (b1.extBut _ o D.l2z e))) e2 λp4 e b4 he=>?_);obtain⟨oe,ho,hc⟩:=he;have z4:bE p4 z TI TO .ellipsis f1:=b4 _ _ D.i2z.symm (b3.extBut _ _ D.TOz.symm (b2.extBut _ _ D.i1z.symm z1));have ne:e≠z:=λn=>by subst n;rw[z4]at ho;cases ho;simp at hc
  exact wpAny_setField_rec z4 (by simp) λp5 _ b5=>q p5 e (λc o n1 n2 n3 n4 v=>b5.extBut _ _ n1 (b4 _ _ n4 (b3.extBut _ _ n2 (b2.extBut _ _ n3 (b1.extBut _ _ n1 v))))) ⟨oe,b5.extBut _ _ ne ho,hc⟩
def pG {Q:Option Obj->Shared->Prop}(h:Q (s.heap.get? c) s):wpAny (model prog w) A (loadIfAlive c) Q E s:=λ_ _ _=>h
variable {t:Tok}
def nQ {Q:Bool->Shared->Prop}(hz:bE s.heap z TI TO (.int T t) (.bool fb))(hT:s.heap.get? T.toNat=some oT)(q:∀ h',bE h' z TI TO (.int T t) (.bool true)->Heap.SameBut z s.heap h'->Q false { s with heap:=h' }):
  wpAny (model prog w) A (Builtin.SmallTypes.ownedTupleIsFree (.ref z)) Q E s:=by
 unfold Builtin.SmallTypes.ownedTupleIsFree;refine ad (ap (x:=.int T t) hz rfl rfl ?_);refine ad (pG ?_);rw[hT];refine ad (ap (x:=.bool fb) hz rfl rfl ?_);cases fb
 .refine ad (wpAny_setField_rec hz (by simp) λp1 z1 b1=>am ?_);exact q p1 z1 b1
 .exact ad (am (am (q s.heap hz (Heap.SameBut.refl ..))))
def yP (D:ZipApart z TI TO i1 i2 l1 l2)(hz:bE s.heap z TI TO (.int T t) (.bool fb))(hT:s.heap.get? T.toNat=some oT)(hI:IsPair s.heap TI (.ref i1) (.ref i2))
  (g1:aW tp1 s.heap i1 l1 k1) (g2:aW tp2 s.heap i2 l2 k2) (t1:bC tp1 s.heap l1 xs) (t2:bC tp2 s.heap l2 ys) (hx:xs[k1]? =some x) (hy:ys[k2]? =some y)
  (q:∀ h',bE h' z TI TO (.int T t) (.bool true)->aW tp1 h' i1 l1 (k1+1)->aW tp2 h' i2 l2 (k2+1)->IsPair h' s.heap.objs.size x y->h'.objs.size=s.heap.objs.size+1->
   (∀ c o,c≠z->c≠i1->c≠i2->s.heap.get? c=some o->h'.get? c=some o)->Q (some (.ref s.heap.objs.size)) { s with heap:=h' }):wpAny (model prog w) A (pyNext (.ref z)) Q E s:=by
 have hZ:s.TypeIs (.ref z) "zip":=⟨_,hz,rfl⟩;unfold pyNext;refine ad (wpAny_attempt (wpAny_callSpecial?_slot (name:=Str.ofString "__next__") hZ F.slot_zip_next (wpAny_call_entry F.slot_zip_next hZ F.entry_zip_next ?_ (F.args_zip_next_1 _))));show wpAny _ _ (field (.ref z) 2 >>= _) _ _ _;refine ad (ap (x:=.bool false) hz rfl rfl ?_);show wpAny _ _ (field (.ref z) 3 >>= _) _ _ _;refine ad (ap (x:=.ref TI) hz rfl rfl ?_);refine ad (wpAny_seqItems hI rfl ?_);show wpAny _ _ (Builtin.SmallTypes.ownedTupleIsFree (.ref z) >>= _) _ _ _;refine ad (nQ hz hT λp1 z1 b1=>?_);simp only[Bool.false_eq_true,if_false];simp only[List.forIn_toArray,forIn_cons,forIn_nil];refine ad (ad (ad (bd ?_)));show wpAny _ _ (Builtin.SmallTypes.nextOf (.ref i1) >>= _) _ _ _;refine ad (eA (g1.to λo e=>b1.extBut _ o D.i1z e) (t1.to λo e=>b1.extBut _ o D.l1z e) hx λp2 g1b b2=>am (am ?_));dsimp only;refine ad (ad (bd ?_));show wpAny _ _ (Builtin.SmallTypes.nextOf (.ref i2) >>= _) _ _ _;refine ad (eA (g2.to λo e=>b2.extBut _ o D.i12.symm (b1.extBut _ o D.i2z e)) (t2.to λo e=>b2.extBut _ o D.l2i1 (b1.extBut _ o D.l2z e)) hy λp3 g2b b3=>am (am (am ?_)));dsimp only;refine ad (wpAny_newTuple ?_ (hsz:=fits (nw rfl)));have hsz:p3.objs.size=s.heap.objs.size:=by rw[b3.1,b2.1,b1.1]
 refine am ⟨_,rfl,?_⟩;have z3:bE p3 z TI TO (.int T t) (.bool true):=b3.extBut _ _ D.i2z.symm (b2.extBut _ _ D.i1z.symm z1);rw[hsz];refine am (q _ (sw _ z3) (g1b.to λo e=>sw _ (b3.extBut _ o D.i12 e)) (g2b.to λo e=>sw _ e) (by rw[<-hsz];exact tz _ rfl) (by rw[Heap.size_push,hsz]) λc o n1 n2 n3 e=>?_);exact sw _ (b3.extBut _ _ n3 (b2.extBut _ _ n2 (b1.extBut _ _ n1 e)))
def ye {Q:Fin->Shared->Prop}(hh:A.handled=none)(D:ZipApart z TI TO i1 i2 l1 l2)(hz:bE s.heap z TI TO (.int T t) (.bool fb))(hT:s.heap.get? T.toNat=some oT)(hI:IsPair s.heap TI (.ref i1) (.ref i2))
  (g1:aW tp1 s.heap i1 l1 k1) (g2:aW tp2 s.heap i2 l2 k2) (t1:bC tp1 s.heap l1 xs) (t2:bC tp2 s.heap l2 ys) (hx:xs[k1]? =none\/ys[k2]? =none)
  (q:∀ h' e,(∀ c o,c≠z->c≠i1->c≠i2->s.heap.get? c=some o->h'.get? c=some o)->(∃ o,h'.get? e=some o/\o.cls=.type "StopIteration")->E (.ref e) { s with heap:=h' }):
  wpAny (model prog w) A (Builtin.«zip.__next__» ⟨[.ref z],[]⟩) Q E s:=by
 show wpAny _ _ (field (.ref z) 2 >>= _) _ _ _;refine ad (ap (x:=.bool false) hz rfl rfl ?_);show wpAny _ _ (field (.ref z) 3 >>= _) _ _ _;refine ad (ap (x:=.ref TI) hz rfl rfl ?_);refine ad (wpAny_seqItems hI rfl ?_);show wpAny _ _ (Builtin.SmallTypes.ownedTupleIsFree (.ref z) >>= _) _ _ _;refine ad (nQ hz hT λp1 z1 b1=>?_);simp only[Bool.false_eq_true,if_false];simp only[List.forIn_toArray,forIn_cons,forIn_nil];refine ad (ad (ad (bd ?_)));show wpAny _ _ (Builtin.SmallTypes.nextOf (.ref i1) >>= _) _ _ _;cases e1:xs[k1]? with
 |none=>exact ad (lU hh (g1.to λo e=>b1.extBut _ o D.i1z e) (t1.to λo e=>b1.extBut _ o D.l1z e) e1 λp2 e b2 he=>q p2 e (λc o n1 n2 n3 v=>b2 _ _ n2 (b1.extBut _ _ n1 v)) he)
 |some x=>
  have e2:ys[k2]? =none:=by rcases hx with h|h;(rw[e1]at h;cases h);exact h
  refine ad (eA (g1.to λo e=>b1.extBut _ o D.i1z e) (t1.to λo e=>b1.extBut _ o D.l1z e) e1 λp2 g1b b2=>am (am ?_));dsimp only;refine ad (ad (bd ?_));show wpAny _ _ (Builtin.SmallTypes.nextOf (.ref i2) >>= _) _ _ _;exact ad (lU hh (g2.to λo e=>b2.extBut _ o D.i12.symm (b1.extBut _ o D.i2z e)) (t2.to λo e=>b2.extBut _ o D.l2i1 (b1.extBut _ o D.l2z e)) e2 λp4 e b4 he=>q p4 e (λc o n1 n2 n3 v=>b4 _ _ n3 (b2.extBut _ _ n2 (b1.extBut _ _ n1 v))) he)
def wK (hh:A.handled=none)(D:ZipApart z TI TO i1 i2 l1 l2)(hz:bE s.heap z TI TO .none f1)(hI:IsPair s.heap TI (.ref i1) (.ref i2))(hO:IsPair s.heap TO a b)
  (g1:aW tp1 s.heap i1 l1 k1) (g2:aW tp2 s.heap i2 l2 k2) (t1:bC tp1 s.heap l1 xs) (t2:bC tp2 s.heap l2 ys) (hx:xs[k1]? =none\/ys[k2]? =none)
  (q:∀ h',(∀ c o,c≠z->c≠TO->c≠i1->c≠i2->s.heap.get? c=some o->h'.get? c=some o)->Q none { s with heap:=h' }):wpAny (model prog w) A (pyNext (.ref z)) Q E s:=by
 have hT:s.TypeIs (.ref z) "zip":=⟨_,hz,rfl⟩;unfold pyNext;refine ad (wpAny_attempt (wpAny_callSpecial?_slot (name:=Str.ofString "__next__") hT F.slot_zip_next (wpAny_call_entry F.slot_zip_next hT F.entry_zip_next (DF hh D hz hI hO g1 g2 t1 t2 hx λh' e k ⟨o,ho,hc⟩=>?_) (F.args_zip_next_1 _))));exact ad (wpAny_isInstance (T:="StopIteration") (b:=true) ⟨o,ho,hc⟩ isSubtype_stop (am (q _ k)))
def vQ (hh:A.handled=none)(D:ZipApart z TI TO i1 i2 l1 l2)(hz:bE s.heap z TI TO (.int T t) (.bool fb))(hT:s.heap.get? T.toNat=some oT)(hI:IsPair s.heap TI (.ref i1) (.ref i2))
  (g1:aW tp1 s.heap i1 l1 k1) (g2:aW tp2 s.heap i2 l2 k2) (t1:bC tp1 s.heap l1 xs) (t2:bC tp2 s.heap l2 ys) (hx:xs[k1]? =none\/ys[k2]? =none)
  (q:∀ h',(∀ c o,c≠z->c≠i1->c≠i2->s.heap.get? c=some o->h'.get? c=some o)->Q none { s with heap:=h' }):wpAny (model prog w) A (pyNext (.ref z)) Q E s:=by
 have hT':s.TypeIs (.ref z) "zip":=⟨_,hz,rfl⟩;unfold pyNext;refine ad (wpAny_attempt (wpAny_callSpecial?_slot (name:=Str.ofString "__next__") hT' F.slot_zip_next (wpAny_call_entry F.slot_zip_next hT' F.entry_zip_next (ye hh D hz hT hI g1 g2 t1 t2 hx λh' e k ⟨o,ho,hc⟩=>?_) (F.args_zip_next_1 _))));exact ad (wpAny_isInstance (T:="StopIteration") (b:=true) ⟨o,ho,hc⟩ isSubtype_stop (am (q _ k)))
abbrev w6 (tp:Bool)(c:Addr):Obj:=match tp with
 |true=>{ cls:=.type "tuple_iterator",data:=.fields #[.ref c,.int 0 0] }
 |false=>{ cls:=.type "list_iterator",data:=.fields #[.ref c,.int 0 0] }
def n6 {vs:Array Value}{Q:KD}(t:bC tp s.heap c vs)(q:Q (.ref s.heap.objs.size) { s with heap:=s.heap.push (w6 tp c) }):wpAny (model prog w) A (pyIter (.ref c)) Q E s:=by
 cases tp
 .exact wpAny_pyIter_list t q
 .exact wpAny_pyIter_tuple t q
@[reducible]def E4 (a:Array Value):Obj:={ cls:=.type "tuple",data:=.seq a }
@[reducible]def Dq (m n:Addr):Obj:={ cls:=.type "zip",data:=.fields #[.none,.bool false,.bool false,.ref m,.ref n] }
def Fb {l:Addr}:(w6 tp l).isFreed=false:=by cases tp<;>rfl
def GQ {n:Nat}(o:Obj)(hn:h.objs.size=n)(ho:o.isFreed=false:=by first|rfl|exact Fb):∃ h',h.push o=h'/\h'.get? n=some o/\h'.objs.size=n+1/\∀ c o',h.get? c=some o'->h'.get? c=some o':=
 ⟨_,rfl,hn▸tz _ ho,by rw[Heap.size_push,hn],λ_ _ e=>sw _ e⟩
def Js {i l:Addr}(e:h.get? i=some (w6 tp l)):aW tp h i l 0:=by
 cases tp
 .exact⟨_,e,rfl,rfl⟩
 .exact⟨_,e,rfl,rfl⟩
noncomputable abbrev BA (h:Heap)(tp1 tp2:Bool)(l1 l2:Addr):Heap:=((((h.push (w6 tp1 l1)).push (w6 tp2 l2)).push (E4 #[.ref h.objs.size,.ref (h.objs.size+1)])).push (E4 #[.none,.none])).push (Dq (h.objs.size+2) (h.objs.size+3))
def Bt (tp1 tp2:Bool)(l1 l2:Addr)(xs ys:Array Value):Meets (Builtin.«zip.__new__» ⟨[.type "zip",.ref l1,.ref l2],[]⟩)
  (λ_ R s=>bC tp1 s.heap l1 xs/\bC tp2 s.heap l2 ys/\R (.ok (.ret (.ref (s.heap.objs.size+4)))) { s with heap:=BA s.heap tp1 tp2 l1 l2 }):=.of_wp λprog w A R s h=>by
 obtain⟨hp,g,d,tk,os⟩:=s;obtain⟨t1,t2,q⟩:=h;have hsub:=sub_zip;have t2':bC tp2 (hp.push (w6 tp1 l1)) l2 ys:=t2.to λo e=>sw _ e
 wp_walk using n6 (s:=⟨hp,g,d,tk,os⟩) t1,n6 (s:=⟨hp.push (w6 tp1 l1),g,d,tk,os⟩) t2'
 refine⟨_,rfl,?_⟩;simp only[Heap.size_push,Nat.add_assoc]at q⊢;exact q
def nJ {Q:KD}(t1:bC tp1 s.heap l1 xs)(t2:bC tp2 s.heap l2 ys)
  (q:∀ h',bE h' (s.heap.objs.size+4) (s.heap.objs.size+2) (s.heap.objs.size+3) .none (.bool false)->IsPair h' (s.heap.objs.size+2) (.ref s.heap.objs.size) (.ref (s.heap.objs.size+1))->
   IsPair h' (s.heap.objs.size+3) .none .none->aW tp1 h' s.heap.objs.size l1 0->aW tp2 h' (s.heap.objs.size+1) l2 0->h'.objs.size=s.heap.objs.size+5->
   (∀ c o,s.heap.get? c=some o->h'.get? c=some o)->Q (.ref (s.heap.objs.size+4)) { s with heap:=h' }):
  wpAny (model prog w) A (call (.type "zip") [.ref l1,.ref l2]) Q E s:=by
 refine callType_new F.called_zip (by decide) (F.typeCall_zip_2 _ _) (F.newCall_zip_2 _ _) (λobj=>F.args_object_init_3 obj _ _) F.entry_zip_new (Bt tp1 tp2 l1 l2 xs ys) ⟨t1,t2,?_⟩;generalize hn:s.heap.objs.size=n at q⊢;have hz:BA s.heap tp1 tp2 l1 l2=((((s.heap.push (w6 tp1 l1)).push (w6 tp2 l2)).push (E4 #[.ref n,.ref (n+1)])).push (E4 #[.none,.none])).push (Dq (n+2) (n+3)):=by rw[<-hn]
 obtain⟨_,a1,e0,z0,k0⟩:=GQ (w6 tp1 l1) hn;obtain⟨_,a2,e1,z1,k1⟩:=GQ (w6 tp2 l2) z0;obtain⟨_,a3,e2,z2,k2⟩:=GQ (E4 #[.ref n,.ref (n+1)]) z1;obtain⟨_,a4,e3,z3,k3⟩:=GQ (E4 #[.none,.none]) z2;obtain⟨_,a5,e4,z4,k4⟩:=GQ (Dq (n+2) (n+3)) z3;rw[hz,a1,a2,a3,a4,a5];exact⟨⟨_,e4,rfl⟩,q _ e4 (k4 _ _ (k3 _ _ e2)) (k4 _ _ e3) ((Js e0).to λo e=>k4 _ _ (k3 _ _ (k2 _ _ (k1 _ _ e)))) ((Js e1).to λo e=>k4 _ _ (k3 _ _ (k2 _ _ e))) z4 λc o e=>k4 _ _ (k3 _ _ (k2 _ _ (k1 _ _ (k0 _ _ e))))⟩
def xZ {n:Addr}(a1:l1<n)(a2:l2<n):ZipApart (n+4) (n+2) (n+3) n (n+1) l1 l2:=by
 constructor<;>(intro e;have e':=(show @Eq Nat _ _ from e);have b1:=(show @LT.lt Nat _ l1 n from a1);have b2:=(show @LT.lt Nat _ l2 n from a2);omega)
def tS {m:Nat}{T:Addr}{Q:KC}(hz:bE s.heap z TI TO (rawInt T) f1)(q:∀ h',bE h' z TI TO .none f1->Heap.SameBut z s.heap h'->Q () { s with heap:=h' }):
  wpAny (model prog w) A (letOwnedTupleGo (.Tuple elts m pos) (.ref z) (.ref T)) Q E s:=by
 unfold letOwnedTupleGo;refine ad (wpAny_load hz ?_);show wpAny _ _ (if(["enumerate","zip","dict_itemiterator","dict_reverseitemiterator","odict_iterator","itertools.zip_longest","itertools.pairwise"].contains "zip"&&(#[rawInt T,f1,.bool false,.ref TI,.ref TO]:Array Value)[0]? ==some (rawInt T))=true then _ else _) Q E s;rw[if_pos (by simp)];exact ad (wpAny_rule (wpAny_setField_rec hz (by simp) λh' z' b'=>q h' z' b'))
def jM {f0:Value}{Q:KD}(hz:bE s.heap z TI TO f0 f1)(h:Q (.ref z) s):wpAny (model prog w) A (pyIter (.ref z)) Q E s:=by
 have hT:s.TypeIs (.ref z) "zip":=⟨_,hz,rfl⟩;refine wpAny_pyIter_slot hT F.slot_zip_iter (wpAny_call_entry F.slot_zip_iter hT F.entry_zip_iter ?_ (F.args_zip_iter_1 _));show wpAny _ _ (ret (.ref z)) _ _ s;exact am ⟨_,rfl,"zip",_,hT,F.slot_zip_next.lookup,h⟩
end
variable {X:Cx}{Y:KG}{U:St}{H:Hp}{s:Shared}
def Inv.zK {h':Heap}{t':Nat}{ch:List Addr}(I:Inv X Y U H s)(k:∀ b u,b ∉ ch->s.heap.get? b=some u->h'.get? b=some u) (hf:∀ b ∈ ch,gQ X Y H b):Inv X Y U H { s with heap:=h',toks:=t' }:=by
 have nch:∀ b u,H b=some u->b ∉ ch:=λb u e z=>by rw[(hf b z).1]at e;cases e
 refine I.step (g':=s.gens) (d':=s.drawn) (ch:=ch) (λb hb=>?_) (λb o _ _ hc e _=>k b o hc e) (λb o _ _ hc e _=>⟨o.slots,k b o hc e⟩) (λ_ _ _ _ n=>n)
  (λb o hc e=>⟨o,k b o hc e⟩) (λ_ _ e=>e) (λ_ _ _ e=>e) (λb ps e=>⟨#[],by rw[e];simp⟩) (λm hm=>?_) (λb u e=>?_) I.bare
 .obtain⟨_,f1,_,f3,f4,f5⟩:=hf b hb;exact⟨f3,f1,f4,f5⟩
 .obtain⟨o,es,ep,ho,r⟩:=hm;exact⟨o,es,ep,k _ o (λz=>(hf _ z).2.1 rfl) ho,r⟩
 .refine(I.hok b u e).eC (λc v hc q=>k c v ?_ q) (λ_ q=>q) λ_ _ q=>q
  rcases hc with rfl|hc
  .exact nch _ _ e
  .exact nch _ _ hc
abbrev Sq (K:W.Frag)(tp:Bool)(H:Hp)(c:Addr)(xs:List V):Prop:=match tp with
 |true=>aZ K H c xs
 |false=>aY K H c xs
def Inv.sq {xs:List V}(I:Inv X Y U H s)(h:Sq X.K tp H c xs):∃ its:List Value,Vals xs its/\bC tp s.heap c its.toArray:=by
 cases tp
 .obtain⟨its,r,p,_⟩:=I.list h;exact⟨its,r,p.isList⟩
 .obtain⟨its,r,p,_⟩:=I.tuple h;exact⟨its,r,p⟩
def Inv.vI {xs ys:List V}(I:Inv X Y U H s)(h:Sq X.K tp H c xs)(h':Sq X.K tp H c ys):xs=ys:=by
 cases tp
 .exact I.j7 h h'
 .exact I.gX h h'
abbrev HI (K:W.Frag)(tp1:Bool)(l1:Addr)(tp2:Bool)(l2:Addr):It:=
 ⟨λi H=>∃ xs ys x y,Sq K tp1 H l1 xs/\Sq K tp2 H l2 ys/\xs[i]? =some x/\ys[i]? =some y,
  λi H v H'=>∃ T x y,H T=none/\v=.ref T/\H'=upd H T (.tup [x,y])/\(∀ xs,Sq K tp1 H l1 xs->xs[i]? =some x)/\∀ ys,Sq K tp2 H l2 ys->ys[i]? =some y,
  λi H=>∃ xs ys,Sq K tp1 H l1 xs/\Sq K tp2 H l2 ys/\(xs.length<=i\/ys.length<=i)⟩
def xS {P:Program}{w:World}{K:W.Frag}{tp1 tp2:Bool}{z TI TO i1 i2 l1 l2:Addr}(D:ZipApart z TI TO i1 i2 l1 l2):
  Turn P w K (.Tuple elts k pos) (HI K tp1 l1 tp2 l2) [z,TI,TO,i1,i2] z (λi h=>(∃ f1,bE h z TI TO .none f1)/\IsPair h TI (.ref i1) (.ref i2)/\(∃ a b,IsPair h TO a b)/\aW tp1 h i1 l1 i/\aW tp2 h i2 l2 i) where
 mem:=by simp
 obj:=λi h st b hb=>by
  obtain⟨⟨f1,hz⟩,hI,⟨a,b',hO⟩,g1,g2⟩:=st;have it:∀ {tp:Bool}{j c:Addr}{k:Nat},aW tp h j c k->∃ o,h.get? j=some o/\∀ v,o.data≠.cell v:=λ{tp j c k} g=>by
   cases tp
   .obtain⟨o,e,_,d⟩:=(show h.IsListIter j c k from g);exact⟨o,e,λv z=>by rw[d]at z;cases z⟩
   .obtain⟨o,e,_,d⟩:=(show h.IsTupleIter j c k from g);exact⟨o,e,λv z=>by rw[d]at z;cases z⟩
  simp only[li,not_mem_nil,or_false]at hb;rcases hb with rfl|rfl|rfl|rfl|rfl
  .exact⟨_,hz,λv e=>by cases(show Data.fields _=Data.cell v from e)⟩
  .exact⟨_,hI,λv e=>by cases(show Data.seq _ _=Data.cell v from e)⟩
  .exact⟨_,hO,λv e=>by cases(show Data.seq _ _=Data.cell v from e)⟩
  .exact it g1
  .exact it g2
 keep:=λi h h' st k=>by
  obtain⟨⟨f1,hz⟩,hI,⟨a,b',hO⟩,g1,g2⟩:=st;exact⟨⟨f1,k z (by simp) _ hz⟩,k TI (by simp) _ hI,⟨a,b',k TO (by simp) _ hO⟩,g1.to λo e=>k i1 (by simp) o e,g2.to λo e=>k i2 (by simp) o e⟩
 item:=by
  intro X hP hw hK hc i Y s U H E I hf st hg;subst hP hw hK;obtain⟨xs,ys,x,y,hq1,hq2,hx,hy⟩:=hg;obtain⟨⟨f1,hz⟩,hI,⟨a,b,hO⟩,g1,g2⟩:=st;obtain⟨is1,r1,t1⟩:=I.sq hq1;obtain⟨is2,r2,t2⟩:=I.sq hq2;obtain⟨u,hu,ru⟩:=r1.get hx;obtain⟨v,hv,rv⟩:=r2.get hy;have n0:∀ {c o},s.heap.get? c=some o->c≠s.heap.objs.size:=λe=>ol (sK e)
  refine sx D hz hI hO g1 g2 t1 t2 (x:=u) (y:=v) (by simpa using hu) (by simpa using hv) λh1 z1 o1 j1 j2 hT hs1 k1=>?_
  have I1:Inv X Y U (upd H s.heap.objs.size (.tup [x,y])) { s with heap:=h1,toks:=s.toks }:=
   I.pD (ch:=[z,TI,TO,i1,i2]) (λb o hb q=>k1 b o (λe=>hb (by simp[e])) (λe=>hb (by simp[e])) (λe=>hb (by simp[e])) (λe=>hb (by simp[e])) q) hf (pc _)
    ⟨fits (nw rfl),[u,v],.cons ru (.cons rv .nil),⟨_,hT,rfl,_,rfl⟩⟩
  refine⟨_,rfl,tS z1 λh2 z2 b2=>?_⟩;obtain⟨f0,f1',f2,f3,f4,f5⟩:=hf z (by simp);have I2:=I1.turned (h':=h2) (t':=s.toks) (it:=z) (λb o hb q=>(b2.2 b hb).trans q) (by rw[af (n0 hz)];exact f0) f1' f3 f4 f5;refine⟨.ref s.heap.objs.size,_,I2,rfl,⟨_,x,y,I.hok.fresh (pc _),rfl,rfl,λzs hz'=>?_,λzs hz'=>?_⟩,⟨⟨_,z2⟩,?_,⟨_,_,b2.extBut _ _ D.TOz o1⟩,j1.to λo e=>b2.extBut _ o D.i1z e,j2.to λo e=>b2.extBut _ o D.i2z e⟩,λb hb=>?_⟩
  .rw[I.vI hz' hq1];exact hx
  .rw[I.vI hz' hq2];exact hy
  .exact b2.extBut _ _ D.TIz (k1 _ _ D.TIz D.TITO D.TIi1 D.TIi2 hI)
  .have hb':b≠s.heap.objs.size:=by
    simp only[li,not_mem_nil,or_false]at hb;rcases hb with rfl|rfl|rfl|rfl|rfl
    .exact n0 hz
    .exact n0 hI
    .exact n0 hO
    .exact ol g1.lt
    .exact ol g2.lt
   rw[af hb'];exact(hf b hb).1
 done:=by
  intro X hP hw hK hc i Y s U H E I hf st hg;subst hP hw hK;obtain⟨xs,ys,hq1,hq2,hx⟩:=hg;obtain⟨⟨f1,hz⟩,hI,⟨a,b,hO⟩,g1,g2⟩:=st;obtain⟨is1,r1,t1⟩:=I.sq hq1;obtain⟨is2,r2,t2⟩:=I.sq hq2;have e1:=r1.length;have e2:=r2.length;refine wK (I.ok.hd hc) D hz hI hO g1 g2 t1 t2 (by simp;omega) λh' k'=>⟨rfl,?_⟩
  exact I.zK (t':=s.toks) (ch:=[z,TI,TO,i1,i2]) (λb o hb q=>k' b o (λe=>hb (by simp[e])) (λe=>hb (by simp[e])) (λe=>hb (by simp[e])) (λe=>hb (by simp[e])) q) hf
 self:=λ_ _ _ _ _ st h=>by
  obtain⟨⟨f1,hz⟩,_⟩:=st;exact jM hz h
def vM:bootBuiltins "zip"=some (.type "zip"):=by decide+kernel
abbrev Fe (K:W.Frag)(v u:V)(H:Hp)(R:It->Hp->Prop):Prop:=∃ tp1 l1 tp2 l2,v=.ref l1/\u=.ref l2/\(∃ xs,Sq K tp1 H l1 xs)/\(∃ ys,Sq K tp2 H l2 ys)/\R (HI K tp1 l1 tp2 l2) H
abbrev Jb (K:W.Frag)(ta:TA):TI:=λU H R=>ta U H λvs H1=>∃ v u,vs=[v,u]/\Fe K v u H1 R
variable {ta:TA}{p:Pos}
def DL {a b:Expr}{pos':Pos}(hg:Gl X "zip") (hm:X.mg "zip"=none) (ha:PA X [a,b] ta) (hs:bm [a,b] X.env=(false,eval a X.env)::bm [b] X.env:=by rfl) (hpl:(backTo pos (bm [b] X.env)).any (·.1)=false:=by rfl):
  PI X (.Tuple elts k pos') (.Call (.Name "zip" p) [a,b] [] pos) (Jb X.K ta):=by
 intro Y s U H R I h;refine Call_ (cn I hg hm vM (PyProof.Rows.callWith_type1 (aw (ha pos Y s U H _ I h) λus s1 ⟨vs,H1,I1,r1,q1⟩=>?_) hs hpl));obtain⟨v,u,e,tp1,l1,tp2,l2,e1,e2,⟨xs,q1⟩,⟨ys,q2⟩,q⟩:=q1;subst e e1 e2;cases r1 with
 |cons r rr=>
  cases rr with
  |cons r' rr'=>
   cases rr';cases r;cases r';obtain⟨is1,s1',t1⟩:=I1.sq q1;obtain⟨is2,s2',t2⟩:=I1.sq q2;refine nJ t1 t2 λh' hz hI hO g1 g2 hsz hk=>?_
   refine jM hz ?_;refine⟨s1.heap.objs.size+4,[s1.heap.objs.size+4,s1.heap.objs.size+2,s1.heap.objs.size+3,s1.heap.objs.size,s1.heap.objs.size+1],_,_,H1,rfl,I1.kept (t':=s1.toks) hk,xS (xZ t1.lt t2.lt),⟨⟨_,hz⟩,hI,⟨_,_,hO⟩,g1,g2⟩,λb hb=>?_,q⟩;have hb':s1.heap.objs.size<=b:=by
    simp only[li,not_mem_nil,or_false]at hb;rcases hb with rfl|rfl|rfl|rfl|rfl<;>first|exact pc _|exact Nat.le_add_right _ _
   exact I1.uS hb' (I1.hok.fresh hb')
def mz:entryFor table "zip.__getattribute__"=some Builtin.«object.__getattribute__»:=entryFor_alias (id':="object.__getattribute__") (by kernel_rfl) (by first|rfl|decide+kernel) (by decide+kernel) (by kernel_rfl)
def og:typeLookup (.type "zip") "keys"=pure none:=by rw[typeLookup_type,builtinLookup_eq_fast];kernel_rfl
def ug:typeLookup (.type "zip") "__getattr__"=pure none:=by rw[typeLookup_type,builtinLookup_eq_fast];kernel_rfl
def uB (a:Addr)(vs:Array Value)(u:Tok):Meets (Builtin.«object.__getattribute__» ⟨[.ref a,.str "keys" u],[]⟩) (λA R s=>s.heap.get? a=some { cls:=.type "zip",dict:=none,data:=.fields vs,slots:=#[] }/\raisesAttr (.ref a) "keys" A R s):=
 Meets.of_wp λprog w A R s ⟨hx,hs⟩=>by
  obtain⟨hp,g,d,tk,os⟩:=s;have hT:(⟨hp,g,d,tk,os⟩:Shared).TypeIs (.ref a) "zip":=⟨_,hx,rfl⟩;have f4:=og;unfold Builtin.«object.__getattribute__»
  repeat(any_goals first|assumption|wp_step)
  exact wpAny_raiseAttrError hs.1 hs.2 (attrMsg_fits (by decide+kernel) (by rw[sizeLine_eq];decide+kernel))
section
variable {prog:Program}{w:World}{A:Around}{E:KD}{s:Shared}{a:Addr}{vs:Array Value}
def wa (hA:A.handled=none)(hx:s.heap.get? a=some { cls:=.type "zip",dict:=none,data:=.fields vs,slots:=#[] })
  (q:∀ h' t',(∀ c u,s.heap.get? c=some u->h'.get? c=some u)->Q none { s with heap:=h',toks:=t' }):wpAny (model prog w) A (getAttr? (.ref a) "keys") Q E s:=by
 obtain⟨hp,g,d,tk,os⟩:=s;have hT:∀ t',(⟨hp,g,d,t',os⟩:Shared).TypeIs (.ref a) "zip":=λ_=>⟨_,hx,rfl⟩
 have f1:=sub_AttributeError;have f3:=PySem.F.slot_zip_getattribute.lookup;have f4:=PySem.F.slot_zip_getattribute.bind (.ref a);have f5:=ug;unfold getAttr? getAttrBy? getAttrBy
 repeat(any_goals first|assumption|((with_reducible show wpAny _ _ (call (Value.builtin "zip.__getattribute__") _ _) _ _ _);refine call_meets PySem.F.slot_zip_getattribute (hT _) mz (PySem.F.args_zip_getattribute_2 _ _) (uB a vs _) ⟨hx,hA,λh' tk' e he=>?_⟩)|wp_step)
 obtain⟨t1,u1,e1⟩:=he.there;show wpAny _ _ (getattributeRaised _ _ _ _ _ _ _) _ _ _;unfold getattributeRaised
 repeat(any_goals first|assumption|wp_step)
 exact q _ _ he.keeps
end
structure Zs (h:Heap) (tp1 tp2:Bool) (z TI TO i1 i2 l1 l2:Addr) (i:Nat) (xs ys:Array Value):Prop where
 zo:(∃ f1,bE h z TI TO .none f1)\/∃ (T:Int) (fb:Bool) (o:Obj),bE h z TI TO (rawInt T) (.bool fb)/\h.get? T.toNat=some o/\T.toNat≠z/\T.toNat≠TO/\T.toNat≠i1/\T.toNat≠i2
 hI:IsPair h TI (.ref i1) (.ref i2)
 hO:∃ a b,IsPair h TO a b
 g1:aW tp1 h i1 l1 i
 g2:aW tp2 h i2 l2 i
 t1:bC tp1 h l1 xs
 t2:bC tp2 h l2 ys
variable {d:Addr}
section
variable {prog:Program}{w:World}{A:Around}{E:KD}{s:Shared}{tp1 tp2:Bool}{z TI TO i1 i2 l1 l2:Addr}{i:Nat}{xs ys:Array Value}{x y:Value}
def Zs.next (D:ZipApart z TI TO i1 i2 l1 l2)(Z:Zs s.heap tp1 tp2 z TI TO i1 i2 l1 l2 i xs ys)(hx:xs[i]? =some x)(hy:ys[i]? =some y)
  (q:∀ h',Zs h' tp1 tp2 z TI TO i1 i2 l1 l2 (i+1) xs ys->IsPair h' s.heap.objs.size x y->h'.objs.size=s.heap.objs.size+1->(∀ c o,c≠z->c≠TO->c≠i1->c≠i2->s.heap.get? c=some o->h'.get? c=some o)->Q (some (.ref s.heap.objs.size)) { s with heap:=h' }):
  wpAny (model prog w) A (pyNext (.ref z)) Q E s:=by
 obtain⟨zo,hI,⟨a,b,hO⟩,g1,g2,t1,t2⟩:=Z;have n0:∀ {c o},s.heap.get? c=some o->s.heap.objs.size≠c:=λe=>Nat.ne_of_gt (sK e)
 rcases zo with⟨f1,hz⟩|⟨T,fb,o,hz,hT,n1,n2,n3,n4⟩
 .refine sx D hz hI hO g1 g2 t1 t2 hx hy λh' z1 o1 j1 j2 p1 sz k=>?_
  refine q h' ⟨.inr ⟨s.heap.objs.size,false,_,z1,p1,n0 hz,n0 hO,Nat.ne_of_gt g1.lt,Nat.ne_of_gt g2.lt⟩,k _ _ D.TIz D.TITO D.TIi1 D.TIi2 hI,⟨_,_,o1⟩,j1,j2,t1.to λo e=>k _ o D.l1z D.l1TO D.l1i1 D.l1i2 e,t2.to λo e=>k _ o D.l2z D.l2TO D.l2i1 D.l2i2 e⟩ p1 sz k
 .refine yP D hz hT hI g1 g2 t1 t2 hx hy λh' z1 j1 j2 p1 sz k=>?_
  exact q h' ⟨.inr ⟨T,true,o,z1,k _ _ n1 n3 n4 hT,n1,n2,n3,n4⟩,k _ _ D.TIz D.TIi1 D.TIi2 hI,⟨a,b,k _ _ D.TOz D.TOi1 D.TOi2 hO⟩,j1,j2,t1.to λo e=>k _ o D.l1z D.l1i1 D.l1i2 e,t2.to λo e=>k _ o D.l2z D.l2i1 D.l2i2 e⟩ p1 sz λc o m1 _ m3 m4 e=>k c o m1 m3 m4 e
def Zs.stop (hh:A.handled=none)(D:ZipApart z TI TO i1 i2 l1 l2)(Z:Zs s.heap tp1 tp2 z TI TO i1 i2 l1 l2 i xs ys)(hx:xs[i]? =none\/ys[i]? =none)
  (q:∀ h',(∀ c o,c≠z->c≠TO->c≠i1->c≠i2->s.heap.get? c=some o->h'.get? c=some o)->Q none { s with heap:=h' }):wpAny (model prog w) A (pyNext (.ref z)) Q E s:=by
 obtain⟨zo,hI,⟨a,b,hO⟩,g1,g2,t1,t2⟩:=Z;rcases zo with⟨f1,hz⟩|⟨T,fb,o,hz,hT,_⟩
 .exact wK hh D hz hI hO g1 g2 t1 t2 hx q
 .exact vQ hh D hz hT hI g1 g2 t1 t2 hx λh' k=>q h' λc o m1 _ m3 m4 e=>k c o m1 m3 m4 e
def Zs.keep {h':Heap}(Z:Zs h tp1 tp2 z TI TO i1 i2 l1 l2 i xs ys)(k:∀ c o,h.get? c=some o->c≠d->h'.get? c=some o) (n:d≠z/\d≠TI/\d≠TO/\d≠i1/\d≠i2/\d≠l1/\d≠l2) (hd:∃ o,h'.get? d=some o):Zs h' tp1 tp2 z TI TO i1 i2 l1 l2 i xs ys:=by
 obtain⟨zo,hI,⟨a,b,hO⟩,g1,g2,t1,t2⟩:=Z;obtain⟨m1,m2,m3,m4,m5,m6,m7⟩:=n;refine⟨?_,k _ _ hI m2.symm,⟨a,b,k _ _ hO m3.symm⟩,g1.to λo e=>k _ o e m4.symm,g2.to λo e=>k _ o e m5.symm,t1.to λo e=>k _ o e m6.symm,t2.to λo e=>k _ o e m7.symm⟩;rcases zo with⟨f1,hz⟩|⟨T,fb,o,hz,hT,r⟩
 .exact .inl ⟨f1,k _ _ hz m1.symm⟩
 .by_cases e:T.toNat=d
  .obtain⟨o',ho⟩:=hd;exact .inr ⟨T,fb,o',k _ _ hz m1.symm,by rw[e];exact ho,r⟩
  .exact .inr ⟨T,fb,o,k _ _ hz m1.symm,k _ _ hT e,r⟩
end
def ef:plainId "dict.update.loop"=true:=by decide+kernel
def lF:entryFor table "dict.update.loop"=some Builtin.«dict.update.loop»:=entryFor_of_tree (by kernel_rfl)
section
variable {prog:Program}{w:World}{A:Around}{tp1 tp2:Bool}{z TI TO i1 i2 l1 l2 d:Addr}{xs ys:Array Value}{Ky:Type} [DecidableEq Ky] {knd:KeyKind prog w Ky}
def vt (hh:A.handled=none)(D:ZipApart z TI TO i1 i2 l1 l2)(nd:d≠z/\d≠TI/\d≠TO/\d≠i1/\d≠i2/\d≠l1/\d≠l2)(ks:List Ky)(hk:∀ (j:Nat) x,xs[j]? =some x->∃ k,ks[j]? =some k/\knd.is k x=true) (hz:xs.size=ys.size):
  ∀ (m i:Nat),xs.size-i=m->i<=xs.size->∀ (s:Shared) (kvs:List (Ky×Value)) (R:Result->Shared->Prop),Zs s.heap tp1 tp2 z TI TO i1 i2 l1 l2 i xs ys->s.heap.DictOf knd d kvs->kvs.length+m<=bn->
  (∀ h' t',h'.DictOf knd d (merged kvs ((ks.zip ys.toList).drop i))->(∀ c o,c≠z->c≠TO->c≠i1->c≠i2->c≠d->s.heap.get? c=some o->h'.get? c=some o)->R (.ok (.ret .none)) { s with heap:=h',toks:=t' })->
  wpAny (model prog w) A.in1 (Builtin.«dict.update.loop» ⟨[.ref d,.ref z,rawInt i,.none],[]⟩) (λfin s'=>match fin with| .done f=>R (.ok f) s'| .again c'=>c'.quiet=true/\codeAny (model prog w) A c' R s') (λe s'=>R (.error e) s') s:=by
 intro m
 induction m with
 |zero=>
  intro i hm hi s kvs R Z dd hl q;show wpAny _ _ (pyNext (.ref z) >>= _) _ _ _;refine ad (Z.stop (show A.in1.handled=none from hh) D (.inl (by simp;omega)) λh' k=>?_);show wpAny _ _ (Builtin.Dict.addKeywords d [] >>= _) _ _ _;refine ad (am (am ?_));have e:(ks.zip ys.toList).drop i=[]:=by
   rw[List.drop_eq_nil_iff,length_zip];simp
   omega
  rw[e]at q;refine q h' s.toks ?_ λc o n1 n2 n3 n4 _ e=>k c o n1 n2 n3 n4 e
  obtain⟨o,es,ep,ho,r⟩:=dd;exact⟨o,es,ep,k _ _ nd.1 nd.2.2.1 nd.2.2.2.1 nd.2.2.2.2.1 ho,r⟩
 |succ m ih=>
  intro i hm hi s kvs R Z dd hl q;have h1:i<xs.size:=by omega
  have h2:i<ys.size:=by omega
  have e1:xs[i]? =some xs[i]:=Array.getElem?_eq_getElem h1;have e2:ys[i]? =some ys[i]:=Array.getElem?_eq_getElem h2;obtain⟨k,hk1,hk2⟩:=hk i _ e1;show wpAny _ _ (pyNext (.ref z) >>= _) _ _ _;refine ad (Z.next D e1 e2 λh' Z' p sz fr=>?_);show wpAny _ _ (holding [_] _ >>= _) _ _ _;refine ad (bd ?_);refine ad ?_;have hT:({ s with heap:=h' }:Shared).TypeIs (.ref s.heap.objs.size) "tuple":=⟨_,p,rfl⟩;refine wpAny_tryCatch ?_;unfold Builtin.Dict.pairItems;refine ad (wpAny_typeOf hT ?_);rw[if_pos (by decide)];refine ad (wpAny_seqItems p rfl (am ?_));show wpAny _ _ (holding [_,_] (dictSet d xs[i] ys[i])) _ _ _;refine bd ?_;have dd':h'.DictOf knd d kvs:=by
   obtain⟨o,es,ep,ho,r⟩:=dd;exact⟨o,es,ep,fr _ _ nd.1 nd.2.2.1 nd.2.2.2.1 nd.2.2.2.2.1 ho,r⟩
  refine wpAny_dictSet_pairs (s:={ s with heap:=h' }) (hsz:=by omega) hk2 dd' λh2' d2 b2=>?_
  show wpAny _ _ (pure (Fin.again (.builtin "dict.update.loop" ⟨[.ref d,.ref z,rawInt ((i:Int)+1),.none],[]⟩))) _ _ _;refine am ⟨plainId_quiet ef _,codeAny_builtin lF ?_⟩;rw[Around.under_plainId ef _,show((i:Int)+1)=((i+1:Nat):Int) by push_cast;rfl];have hd:∃ o,h2'.get? d=some o:=let⟨o,_,_,ho,_⟩:=d2;⟨o,ho⟩;refine ih (i+1) nofun nofun { s with heap:=h2',toks:=s.toks+1 } (stored kvs k ys[i]) R (Z'.keep (λc o e n=>b2.extBut _ _ n e) nd hd) d2 ?_ λh3 t3 d3 f3=>?_
  .have:(stored kvs k ys[i]).length<=kvs.length+1:=by
    unfold stored
    split
    .rw[ce];omega
    .rw[ci];simp
   omega
  .have ed:(ks.zip ys.toList).drop i=(k,ys[i])::(ks.zip ys.toList).drop (i+1):=by
    have:(ks.zip ys.toList)[i]? =some (k,ys[i]):=by
     rw[List.getElem?_zip_eq_some];exact⟨hk1,by simpa using h2⟩
    obtain⟨hlt,he⟩:=sn.mp this;rw[List.drop_eq_getElem_cons hlt,he]
   refine q h3 t3 ?_ λc o n1 n2 n3 n4 n5 e=>f3 c o n1 n2 n3 n4 n5 (b2.extBut _ _ n5 (fr c o n1 n2 n3 n4 e))
   rw[ed];exact d3
def nj {E:KD}{Q:KD}(hh:A.handled=none)(D:ZipApart z TI TO i1 i2 l1 l2)(ks:List Ky)(hk:∀ (j:Nat) x,xs[j]? =some x->∃ k,ks[j]? =some k/\knd.is k x=true) (hz:xs.size=ys.size) (hn:ks.Nodup) (hkl:ks.length=xs.size) (hsz:xs.size<=bn)
  (Z:Zs s.heap tp1 tp2 z TI TO i1 i2 l1 l2 0 xs ys) (hzo:∃ f1,bE s.heap z TI TO .none f1)
  (q:∀ h' t',h'.DictOf knd s.heap.objs.size (ks.zip ys.toList)->(∀ c o,c≠z->c≠TO->c≠i1->c≠i2->s.heap.get? c=some o->h'.get? c=some o)->Q (.ref s.heap.objs.size) { s with heap:=h',toks:=t' }):
  wpAny (model prog w) A (call (.type "dict") [.ref z]) Q E s:=by
 refine callType_codes (Q₁:=λobj s1=>obj=.ref s.heap.objs.size/\s1={ s with heap:=s.heap.push { cls:=.type "dict",data:=.dict #[] } }) PySem.F.kt_called_dict (PySem.F.kt_typeCall_dict_1 _) PySem.F.entry_dict_init (kt_code_dict_new _ ⟨rfl,rfl⟩) ?_;rintro obj s1 ⟨rfl,rfl⟩;have dn:(s.heap.push { cls:=.type "dict",data:=.dict #[] }).DictOf knd s.heap.objs.size []:=Heap.DictOf.new s.heap;refine⟨dn.typeIs,PySem.F.args_dict_init_2 _ _,?_⟩;unfold Builtin.«dict.__init__»;refine ad ?_;unfold Builtin.Dict.selfAndRest;refine ad (wpAny_notOrdered_dict dn.typeIs ?_);show wpAny _ _ (pure (s.heap.objs.size,[Value.ref z])) _ _ _;refine am ?_;show wpAny _ _ (Builtin.Dict.updateFrom "dict.__init__" s.heap.objs.size (.ref z) [] .none) _ _ _;unfold Builtin.Dict.updateFrom;obtain⟨f1,hz0⟩:=hzo;have hz1:(s.heap.push { cls:=.type "dict",data:=.dict #[] }).get? z=some _:=sw _ hz0;have hT:({ s with heap:=s.heap.push { cls:=.type "dict",data:=.dict #[] } }:Shared).TypeIs (.ref z) "zip":=⟨_,hz1,rfl⟩;refine ad (wpAny_typeOf hT ?_);rw[if_pos (by decide)];refine ad (wa hh hz1 λh1 t1 k1=>?_);rw[if_pos (show(none:Option Value).isNone=true from rfl)];refine ad (wpAny_rule ?_);refine ad (jM (s:={ s with heap:=h1,toks:=t1 }) (k1 _ _ hz1) ?_);have n0:∀ {c o},s.heap.get? c=some o->s.heap.objs.size≠c:=λe=>Nat.ne_of_gt (sK e)
 have nd:s.heap.objs.size≠z/\s.heap.objs.size≠TI/\s.heap.objs.size≠TO/\s.heap.objs.size≠i1/\s.heap.objs.size≠i2/\s.heap.objs.size≠l1/\s.heap.objs.size≠l2:=by
  obtain⟨a,b,hO⟩:=Z.hO;exact⟨n0 hz0,n0 Z.hI,n0 hO,Nat.ne_of_gt Z.g1.lt,Nat.ne_of_gt Z.g2.lt,Nat.ne_of_gt Z.t1.lt,Nat.ne_of_gt Z.t2.lt⟩
 have kk:∀ c o,s.heap.get? c=some o->h1.get? c=some o:=λc o e=>k1 _ _ (sw _ e)
 have d1:h1.DictOf knd s.heap.objs.size []:=by
  obtain⟨o,es,ep,ho,r⟩:=dn;exact⟨o,es,ep,k1 _ _ ho,r⟩
 refine am ⟨plainId_quiet ef _,codeAny_builtin lF ?_⟩;rw[Around.under_plainId ef _];refine vt (A:=A.in1) (d:=s.heap.objs.size) hh D nd ks hk hz _ 0 rfl (Nat.zero_le _) { s with heap:=h1,toks:=t1 } [] _ (Z.keep (λc o e _=>kk c o e) nd (let⟨o,_,_,ho,_⟩:=d1;⟨o,ho⟩)) d1 (by simpa using hsz) λh' t' d' f'=>?_
 rw[drop_zero,merged_nil_of_nodup _ (by rw[List.map_fst_zip (by simp;omega)];exact hn)]at d';exact⟨rfl,q h' t' d' λc o n1 n2 n3 n4 e=>f' c o n1 n2 n3 n4 (n0 e).symm (kk c o e)⟩
end
def xB:bootBuiltins "dict"=some (.type "dict"):=by decide+kernel
def BD {P:Program}{w:World}:∀ {ks:List Key}{us:List Value},Vals (ks.map kV) us->∀ (j:Nat) u,us[j]? =some u->∃ k,ks[j]? =some k/\(au P w).is k u=true
 | [],_,.nil,j,u,h=>by simp at h
 |k::ks,_,.cons r rs,0,u,h=>by
  simp at h;subst h;exact⟨k,rfl,nZ r⟩
 |k::ks,_,.cons r rs,j+1,u,h=>by
  simp at h;obtain⟨k',e1,e2⟩:=BD (P:=P) (w:=w) rs j u h;exact⟨k',by simpa using e1,e2⟩
def B0:∀ {ks:List Key}{ys:List V}{us:List Value},Vals ys us->KV (ks.zip ys) (ks.zip us)
 | [],_,_,_=>by simp[List.zip];exact .nil
 |_::_,_,_,.nil=>.nil
 |k::ks,_,_,.cons r rs=>.cons ⟨rfl,r⟩ (B0 rs)
abbrev JP (K:W.Frag)(v u:V)(H:Hp)(Q:VK):Prop:=∃ tp1 l1 tp2 l2,∃ (ks:List Key) (ys:List V),v=.ref l1/\u=.ref l2/\Sq K tp1 H l1 (ks.map kV)/\Sq K tp2 H l2 ys/\ks.Nodup/\ks.length=ys.length/\ks.length<=1000/\∀ p,H p=none->Q (.ref p) (upd H p (.dK (ks.zip ys)))
abbrev J4 (K:W.Frag)(ta:TA):TE:=λU H Q=>ta U H λvs H1=>∃ v u,vs=[v,u]/\JP K v u H1 Q
def AY {a b:Expr}{p2 pos2:Pos}(hc:X.calm=true)(hg:Gl X "dict") (hm:X.mg "dict"=none) (hg2:Gl X "zip") (hm2:X.mg "zip"=none) (ha:PA X [a,b] ta)
  (hs:bm [a,b] X.env=(false,eval a X.env)::bm [b] X.env:=by rfl) (hpl:(backTo pos2 (bm [b] X.env)).any (·.1)=false:=by rfl):
  PE X (.Call (.Name "dict" p) [.Call (.Name "zip" p2) [a,b] [] pos2] [] pos) (J4 X.K ta):=by
 intro Y s U H Q I h;have h1:bm [.Call (.Name "zip" p2) [a,b] [] pos2] X.env=[(false,eval (.Call (.Name "zip" p2) [a,b] [] pos2) X.env)]:=rfl;refine Call_ (cn I hg hm xB (PyProof.Rows.callWith_type1 ?_ h1 rfl));rw[h1];show wpAny _ _ (spliced ((false,eval (.Call (.Name "zip" p2) [a,b] [] pos2) X.env)::backTo pos [])) _ _ _;refine Calls.spliced_cons ?_;refine Call_ (cn I hg2 hm2 vM (PyProof.Rows.callWith_type1 (aw (ha pos2 Y s U H _ I h) λus s1 ⟨vs,H1,I1,r1,q1⟩=>?_) hs hpl));obtain⟨v,u,e,tp1,l1,tp2,l2,ks,ys,e1,e2,q1,q2,kn,kl,kz,q⟩:=q1;subst e e1 e2;cases r1 with
 |cons r rr=>
  cases rr with
  |cons r' rr'=>
   cases rr';cases r;cases r';obtain⟨is1,v1,t1⟩:=I1.sq q1;obtain⟨is2,v2,t2⟩:=I1.sq q2;refine nJ t1 t2 λh' hz hI hO g1 g2 hsz hk=>?_
   refine Calls.spliced_nil ?_;have n1:is1.length=ks.length:=by rw[<-v1.length,ce]
   have n2:is2.length=ks.length:=by rw[<-v2.length,kl]
   refine nj (s:={ s1 with heap:=h' }) (knd:=au X.prog X.w) (I1.ok.hd hc) (xZ t1.lt t2.lt) ks (λj x hx=>BD v1 j x (by simpa using hx)) (by simp;omega) kn (by simp;omega) (by simp;rw[n1];exact fits kz)
    ⟨.inl ⟨_,hz⟩,hI,⟨_,_,hO⟩,g1,g2,t1.to λo e=>hk _ o e,t2.to λo e=>hk _ o e⟩ ⟨_,hz⟩ λh2 t2' d2 f2=>?_
   have lt0:∀ {c o},s1.heap.get? c=some o->c<s1.heap.objs.size:=λe=>sK e
   have hfree:H1 h'.objs.size=none:=I1.hok.fresh (by rw[hsz];exact Nat.le_add_right _ _);refine⟨.ref h'.objs.size,_,I1.laid (a:=h'.objs.size) (o:=.dK (ks.zip ys)) (t':=t2') (λc o e=>?_) (by rw[hsz];exact Nat.le_add_right _ _) ⟨?_,?_,_,B0 v2,by simpa using d2⟩,rfl,q _ hfree⟩
   .have hl:=lt0 e;refine f2 c o (ol (nl hl (Nat.le_add_right _ _))) (ol (nl hl (Nat.le_add_right _ _))) (ol hl) (ol (nl hl (Nat.le_add_right _ _))) (hk c o e)
   .rw[length_zip];exact fits (Nat.le_trans (Nat.min_le_left _ _) kz)
   .exact beq_eq_false_iff_ne.mpr (Nat.ne_of_gt (nl I1.big (by rw[hsz];exact Nat.le_add_right _ _)))
section
variable {X:Cx}{Y:KG}{U:St}{H:Hp}{s:Shared}{a:Addr}{kvs:List (Key×V)}{A:Around}{E:KD}
def yq {Q:KD}(I:Inv X Y U H s)(e:Rd H a (.dK kvs))(h:∀ p s',H p=none->Inv X Y U (upd H p (.dK kvs)) s'->Q (.ref p) s'):wpAny (model X.prog X.w) A (call (.type "dict") [.ref a]) Q E s:=by
 obtain⟨z,hd,vs,rel,dd⟩:=eP I.hok e;refine kt_call_dict hd dd (by rw[<-rel.length];exact z) λh' dd' hs=>?_
 refine h _ _ (I.hok.fresh (pc _)) (I.laid (a:=s.heap.objs.size) (o:=.dK kvs) (t':=s.toks) (λb q hq=>?_) (pc _) (qC z (beq_eq_false_iff_ne.mpr (Ne.symm (ol I.big))) rel dd'));exact(hs.2 b (ol (sK hq))).trans (sw _ hq)
end
section
variable {X:Cx}{Y:KG}{U:St}{H:Hp}{s:Shared}
end
def FP (d:Addr)(hd:(d ==sysModules)=false)(dd:Option Addr)(ep:Nat)(sl:Array (Option Value)):Meets (Builtin.«dict.__eq__» ⟨[.ref d,.ref d],[]⟩) (λ_ R s=>s.heap.get? d=some ⟨.type "dict",dd,.dict #[] ep,sl⟩/\R (.ok (.ret (.bool true))) s):=by
 intro prog w A R s hs;obtain⟨h,g,dp,tt,os⟩:=s;obtain⟨ho,q⟩:=hs;have hT:(⟨h,g,dp,tt,os⟩:Shared).TypeIs (.ref d) "dict":=⟨_,ho,rfl⟩;unfold Builtin.«dict.__eq__»
 k_delta "equality"
 unfold Builtin.Dict.dictSlotArgs;refine ad (ad (wpAny_notOrdered_dict hT ?_));show wpAny _ _ (pure (Value.ref d,[Value.ref d]) >>= _) _ _ _;refine ad (am (am ?_));have hi:=PySem.F.kt_sub_dict;show wpAny _ _ (isInstance (.ref d) (.type "dict") >>= _) _ _ _;unfold Builtin.Dict.samePairs;simp only[Std.Legacy.Range.forIn_eq_forIn_range']
 repeat(any_goals first|assumption|wp_step)
variable {A:Around}{dd:Option Addr}{sl:Array (Option Value)}
def GA (hd:(d ==sysModules)=false){ep:Nat}(ho:s.heap.get? d=some ⟨.type "dict",dd,.dict #[] ep,sl⟩) (hu:A.units<cLine):SeqAt.RcAt A s (.ref d) (.ref d) true:=λprog w E Q h=>
 richCompare_meets_room (op:=.Eq) ⟨_,ho,rfl⟩ ⟨_,ho,rfl⟩ PySem.F.slot_dict_eq PySem.F.entry_dict_eq (PySem.F.args_dict_eq_2 _ _) (FP d hd dd ep sl) ⟨ho,show Value.bool true≠Value.notImplemented/\Q (.bool true) s from⟨(λx=>nomatch x),h⟩⟩ hu
abbrev yt (K:W.Frag)(H:Hp)(a:Addr):Prop:=(∃ xs,aY K H a xs)\/(∃ xs,aZ K H a xs)\/H a=some (.dK [])
def zJ {a:Addr}(I:Inv X Y U H s)(h:yt X.K H a)(hu:A.units+2<cLine):SeqAt.RcAt A s (.ref a) (.ref a) true:=by
 rcases h with⟨xs,h⟩|⟨xs,h⟩|h
 .obtain⟨ia,ra,pa,_⟩:=I.list h;have rc:=SeqAt.RcAt.lists (A:=A) (e:=λ_=>true) pa.isList pa.isList rfl nofun λj h1 h2=>SeqAt.EqAt.same _
  have e:(List.range ia.toArray.size).all (λ_=>true)=true:=by simp
  rwa [e]at rc
 .obtain⟨ia,ra,pa,_⟩:=I.tuple h;have rc:=SeqAt.RcAt.tuples (A:=A) (e:=λ_=>true) (show s.heap.IsTuple a ia.toArray from pa) (show s.heap.IsTuple a ia.toArray from pa) nofun λj h1 h2=>SeqAt.EqAt.same _
  have e:((List.range (min ia.toArray.size ia.toArray.size)).all (λ_=>true)&&ia.toArray.size ==ia.toArray.size)=true:=by simp
  rwa [e]at rc
 .obtain⟨z,hd,vs,rel,dd⟩:=eP I.hok (.inl h);cases rel;obtain⟨⟨c,d,da,sl⟩,es,ep,ho,hx,he,_,hp,_⟩:=dd;have e0:es=#[]:=by
   cases hp':es.toList with
   |nil=>exact Array.toList_eq_nil_iff.mp hp'
   |cons a b=>rw[hp']at hp;cases hp
  subst e0;obtain rfl:da=.dict #[] ep:=he;obtain⟨rfl,_⟩:=hx;exact GA hd ho nofun
section
variable {prog:Program}{w:World}{A:Around}{E:KD}{s:Shared}{T:String}{r d:Addr}{n:Nat}{P:Nat->Value->Prop}{OK:Heap->Prop}
def pK {Q:List Value->Shared->Prop}(K:KdlSrc prog w T r d n P OK)(hh:A.handled=none)(hok:OK s.heap)(hn:n<=bn)
  (hQ:∀ h' tk (acc:Array Value),(∀ b o,s.heap.get? b=some o->h'.get? b=some o)->ItemsOf P acc n->Q acc.toList { s with heap:=h',toks:=tk }):wpAny (model prog w) A (collect (.ref r)) Q E s:=by
 have hlt:=K.there _ hok;unfold collect;refine ad (wpAny_runValue (codeAny_builtin PySem.F.entry_proto_collect ?_));rw[Around.under_plainId PySem.F.plain_proto_collect _];show wpAny _ A.in1 (newList [] >>= λz=>again (.builtin "list.__iadd__" ⟨[z,.ref r],[]⟩)) _ _ s;refine ad (wpAny_newObj_type (am ⟨plainId_quiet PySem.F.plain_list_iadd _,codeAny_builtin PySem.F.entry_list_iadd ?_⟩));rw[Around.under_plainId PySem.F.plain_list_iadd _];show wpAny _ A.in1 (Builtin.List.listExtendWith (.ref s.heap.objs.size) (.ref r) (.ref s.heap.objs.size)) _ _ _;have hS:(s.heap.push { cls:=.type "list",data:=.seq ([]:List Value).toArray }).get? s.heap.objs.size=some { cls:=.type "list",data:=.seq #[] 0 }:=tz s.heap rfl;have fin:∀ (x:Result) (s':Shared),(x=.ok (.ret (.ref s.heap.objs.size))/\∃ h' tk acc c',s'={ s with heap:=h',toks:=tk }/\(∀ b o,s.heap.get? b=some o->h'.get? b=some o)/\h'.get? s.heap.objs.size=some { cls:=.type "list",dict:=none,data:=.seq acc c',slots:=#[] }/\ItemsOf P acc n)->
   wpAny (model prog w) A (match Value.ref s.heap.objs.size with
    |Value.ref a=>do
     match (<-load a).data with
      |Data.seq xs _=>pure xs.toList
      |_=>unsupported "internal:collect"
    |_=>unsupported "internal:collect") Q E s':=λx s' ⟨_,h',tk,acc,c',e,hk,ho,hi⟩=>by
  subst e;show wpAny _ A (load s.heap.objs.size >>= _) _ _ _;exact ad (wpAny_load ho (am (hQ h' tk acc hk hi)))
 refine wpAny_mono (kdl_extend (A:=A) (s:={ s with heap:=s.heap.push { cls:=.type "list",data:=.seq ([]:List Value).toArray } })
  (R:=λx s'=>x=.ok (.ret (.ref s.heap.objs.size))/\∃ h' tk acc c',s'={ s with heap:=h',toks:=tk }/\(∀ b o,s.heap.get? b=some o->h'.get? b=some o)/\h'.get? s.heap.objs.size=some { cls:=.type "list",dict:=none,data:=.seq acc c',slots:=#[] }/\ItemsOf P acc n)
  K hh (K.keep _ _ hok λb _ o e=>sw _ e) s.heap.objs.size (Nat.ne_of_gt hlt.1) (Nat.ne_of_gt hlt.2) (.ref s.heap.objs.size) 0 hS (λh' tk acc c' hk ho hi=>⟨rfl,h',tk,acc,c',rfl,λb o e=>hk b o (ol (sK e)) (sw _ e),ho,hi⟩) hn) (λfi s' h=>?_) (λe s' h=>?_)
 .cases fi with
  |done f=>
   have hf:=h.1;cases hf;exact fin _ _ h
  |again c'=>exact⟨h.1,codeAny_mono h.2 λx s'' hx=>by
    have e:=hx.1;subst e;exact fin _ _ hx⟩
 .exact absurd h.1 (by simp)
def kO {Q₁:KD}(K:KdlSrc prog w T r d n P OK)(hT0:(T =="tuple")=false) (hh:A.handled=none) (hok:OK s.heap) (hn:n<=bn)
  (h:∀ (h':Heap) (tk:Nat) (acc:Array Value),(∀ b o,s.heap.get? b=some o->h'.get? b=some o)->ItemsOf P acc n->Q₁ (.ref h'.objs.size) { s with heap:=h'.push { cls:=.type "tuple",data:=.seq acc },toks:=tk }):
  codeAny (model prog w) A (.call (.builtin "tuple.__new__") ⟨[.type "tuple",.ref r],[]⟩) (wants Q₁ E) s:=by
 refine codeAny_of_tree ?_;show wpAny _ A.in1 (do checkBuiltinCall "tuple.__new__" ⟨[.type "tuple",.ref r],[]⟩;again (.builtin "tuple.__new__" ⟨[.type "tuple",.ref r],[]⟩)) _ _ s;refine ad (wpAny_of_eq (PySem.F.newCall_tuple_1 _) (am ⟨plainId_quiet PySem.F.plain_tuple_new _,codeAny_builtin PySem.F.entry_tuple_new ?_⟩));rw[Around.under_plainId PySem.F.plain_tuple_new _];have h1:=sub_tuple_self;have h2:=init_tuple_lookup;have h3:=madeHere_tuple;have hTI:=K.type s hok;have h4:=K.notTuple
 wp_walk using wpAny_typeOf hTI,pK (A:=A.in1) K hh hok hn
 intro h' tk acc hk hi;show wpAny _ _ (Builtin.Tuple.tupleExact acc.toList.toArray >>= λz=>ret z) _ _ _;unfold Builtin.Tuple.tupleExact;have e:acc.toList.toArray=acc:=Array.toArray_toList;rw[e];refine ad (wpAny_newObj_type (am ?_) (by show acc.size<=bn;rw[hi.1];exact hn));exact h h' tk acc hk hi
def jW {Q:KD}(K:KdlSrc prog w T r d n P OK)(hT0:(T =="tuple")=false) (hh:A.handled=none) (hok:OK s.heap) (hn:n<=bn)
  (h:∀ (h':Heap) (tk:Nat) (acc:Array Value),(∀ b o,s.heap.get? b=some o->h'.get? b=some o)->ItemsOf P acc n->Q (.ref h'.objs.size) { s with heap:=h'.push { cls:=.type "tuple",data:=.seq acc },toks:=tk }):
  wpAny (model prog w) A (call (.type "tuple") [.ref r]) Q E s:=by
 refine callType_codes (Q₁:=λz s₁=>s₁.TypeIs z "tuple"/\Q z s₁) PySem.F.called_tuple (PySem.F.typeCall_tuple_1 _) PySem.F.entry_object_init (kO K hT0 hh hok hn λh' tk acc hk hi=>⟨⟨_,tz _ rfl,rfl⟩,h h' tk acc hk hi⟩) λz s₁ g=>?_
 exact⟨g.1,PySem.F.args_object_init_2 z _,object_init_meets PySem.F.called_tuple.init.lookup PySem.F.called_tuple.made (by decide) prog w A.in1 _ s₁ ⟨g.1,rfl,g.2⟩⟩
end
def wX:bootBuiltins "list"=some (.type "list"):=by decide+kernel
def uN:bootBuiltins "tuple"=some (.type "tuple"):=by decide+kernel
abbrev Eu (tp:Bool)(xs:List V):HO:=match tp with
 |true=>.tup xs
 |false=>.lst xs
abbrev jF (tp:Bool):String:=match tp with
 |true=>"tuple"
 |false=>"list"
abbrev zj (tp:Bool):Str:=match tp with
 |true=>"tuple"
 |false=>"list"
abbrev BC (tp:Bool)(x:V)(H:Hp)(Q:VK):Prop:=∃ d kvs,x=.ref d/\H d=some (.dK kvs)/\∀ p,H p=none->Q (.ref p) (upd H p (Eu tp (kvs.map (·.2))))
def mf:∀ {kvs:List (Key×V)}{vs:List (Key×Value)},KV kvs vs->Vals (kvs.map (·.2)) (vs.map (·.2))
 |_,_,.nil=>.nil
 |_,_,.cons r rs=>.cons r.2 (mf rs)
def ur {Q:VK}{kvs:List (Key×V)}(tp:Bool)(hc:X.calm=true)(I:Inv X Y U H s)(e:H d=some (.dK kvs))(q:∀ p,H p=none->Q (.ref p) (upd H p (Eu tp (kvs.map (·.2))))):
  wpAny (model X.prog X.w) X.A (call (.builtin "dict.values") [.ref d]) (λv s1=>wpAny (model X.prog X.w) X.A (call (.type (jF tp)) [v]) (EP X Y U Q) X.xe s1) X.xe s:=by
 obtain⟨hz,hd,vs,rel,dd⟩:=eP I.hok (.inl e);refine call_meetsIn PySem.F.slot_dict_values dd.typeIs PySem.F.entry_dict_values (PySem.F.args_dict_values_1 _) (meets_dict_values (au X.prog X.w) d hd) ⟨⟨vs,dd⟩,?_⟩;obtain⟨o,es,ep,ho,hx,he,hk,hp,hn⟩:=dd;have hA:s.heap.DictAt (au X.prog X.w) d vs ep:=⟨o,es,ho,hx,he,hk,hp,hn⟩;have hok:(s.heap.push { cls:=.type "dict_values",data:=.fields #[.ref d] }).IsValuesView s.heap.objs.size d/\(s.heap.push { cls:=.type "dict_values",data:=.fields #[.ref d] }).DictAt (au X.prog X.w) d vs ep:=⟨⟨_,tz _ rfl,rfl,rfl⟩,hA.push _⟩;have hl:vs.length<=bn:=by rw[<-rel.length];exact hz
 have hv:∀ (acc:Array Value),ItemsOf (λi v=>∃ k,vs[i]? =some (k,v)) acc vs.length->acc.toList=vs.map (·.2):=λacc hi=>kdl_vals_eq acc.toList (by rw[Array.length_toList];exact hi.1) λj v hj=>hi.2 j v (by rw[<-Array.getElem?_toList];exact hj)
 have I0:Inv X Y U H { s with heap:=s.heap.push { cls:=.type "dict_values",data:=.fields #[.ref d] } }:=I.kept (t':=s.toks) λb u hb=>sw _ hb
 have hlen:(kvs.map (·.2)).length<=bn:=by rw[ce];exact hz
 cases tp with
 |false=>
  refine kdl_call (s:={ s with heap:=s.heap.push { cls:=.type "dict_values",data:=.fields #[.ref d] } }) (kdl_values (prog:=X.prog) (w:=X.w) (knd:=au X.prog X.w) (r:=s.heap.objs.size) (d:=d) (kvs:=vs) (ep:=ep)) (I.ok.hd hc) hok hl λh' tk acc c' hk' hD hi=>?_
  have ea:=hv acc hi;refine⟨.ref _,_,I0.laid (t':=tk) hk' (pc _) (show aC X.prog X.w _ h' _ (.lst (kvs.map (·.2))) from⟨hlen,acc.toList,c',by rw[ea];exact mf rel,by rw[Array.toArray_toList];exact hD⟩),rfl,q _ (I0.hok.fresh (pc _))⟩
 |true=>
  refine jW (s:={ s with heap:=s.heap.push { cls:=.type "dict_values",data:=.fields #[.ref d] } }) (kdl_values (prog:=X.prog) (w:=X.w) (knd:=au X.prog X.w) (r:=s.heap.objs.size) (d:=d) (kvs:=vs) (ep:=ep)) (by decide) (I.ok.hd hc) hok hl λh' tk acc hk' hi=>?_
  have ea:=hv acc hi;have I1:Inv X Y U H { s with heap:=h',toks:=tk }:=I0.kept (t':=tk) hk';have I2:Inv X Y U (upd H h'.objs.size (.tup (kvs.map (·.2)))) { s with heap:=h'.push { cls:=.type "tuple",data:=.seq acc },toks:=tk }:=
   I1.laid (t':=tk) (λb u hb=>sw _ hb) (pc _) (show aC X.prog X.w _ _ _ (.tup (kvs.map (·.2))) from⟨hlen,acc.toList,by rw[ea];exact mf rel,by rw[Array.toArray_toList];exact IsTup.new _ _⟩)
  exact⟨.ref h'.objs.size,_,I2,rfl,q _ (I1.hok.fresh (pc _))⟩
abbrev Ft (tp:Bool)(ta:TE):TE:=λU H Q=>ta U H λx H1=>BC tp x H1 Q
def zH {a:Expr}{ta:TE}{apos cpos:Pos}(tp:Bool)(hc:X.calm=true)(hg:Gl X (zj tp))(hm:X.mg (zj tp)=none)(ha:PE X a ta)(hb:attributeBase a "values" X.env (eval a X.env)=eval a X.env) (hl:(apos.endLine ==cpos.line)=true):
  PE X (.Call (.Name (zj tp) p) [.Call (.Attribute a "values" apos) [] [] cpos] [] pos) (Ft tp ta):=by
 intro Y s U H Q I h;have h1:bm [.Call (.Attribute a "values" apos) [] [] cpos] X.env=[(false,eval (.Call (.Attribute a "values" apos) [] [] cpos) X.env)]:=rfl;have go:wpAny (model X.prog X.w) X.A (eval (.Call (.Attribute a "values" apos) [] [] cpos) X.env) (λv s1=>wpAny (model X.prog X.w) X.A (call (.type (jF tp)) [v]) (EP X Y U Q) X.xe s1) X.xe s:=by
  refine wpAny_Call_method0_late hb hl (aw (ha Y s U H _ I h) λv s1 ⟨x,H1,I1,r1,q1⟩=>?_);obtain⟨d,kvs,ex,e,q⟩:=q1;subst ex;obtain⟨g1,g2⟩:=qz (T:="dict") I1 r1 (.inr (.inr (.inl ⟨rfl,.inl ⟨kvs,e⟩⟩)));cases r1;exact⟨"dict","dict.values",PySem.F.plainAttrs_dict,PySem.F.slot_dict_values,PySem.F.type_dict_values,g1,g2,Calls.callWith_builtin rfl (PySem.evalArgs_none (ur tp hc I1 e q))⟩
 cases tp with
 |true=>
  refine Call_ (cn I hg hm uN (PyProof.Rows.callWith_type1 ?_ h1 rfl));rw[h1];show wpAny _ _ (spliced ((false,eval (.Call (.Attribute a "values" apos) [] [] cpos) X.env)::backTo pos [])) _ _ _;exact Calls.spliced_cons (aw go λv s1 z=>Calls.spliced_nil z)
 |false=>
  refine Call_ (cn I hg hm wX (PyProof.Rows.callWith_type1 ?_ h1 rfl));rw[h1];show wpAny _ _ (spliced ((false,eval (.Call (.Attribute a "values" apos) [] [] cpos) X.env)::backTo pos [])) _ _ _;exact Calls.spliced_cons (aw go λv s1 z=>Calls.spliced_nil z)
abbrev yr (K:W.Frag)(C:Addr):Bool:=findIn K (.ref C) "__eq__" ==some (some (.builtin "object.__eq__"))&&subIn K (.ref C) (.type "str") ==some false&&subIn K (.ref C) (.type "object") ==some true
def rE {prog:Program}{w:World}{K:Frag}{C:Addr}{R:Result->Shared->Prop}(X:K.In s.heap)(hm:makesIn K C=true)(hi:findIn K (.ref C) "__init__"=some (some (.builtin "object.__init__")))
  (h:R (.ok (.ret (.ref (s.heap.objs.size+1)))) { s with heap:=(s.heap.push emptyDict).push (instObj C s.heap.objs.size) }):codeAny (model prog w) A (.call (.ref C) ⟨[],[]⟩) R s:=by
 obtain⟨hh,g,d,t,os⟩:=s;have Y:=makes_of (M:=model prog w) X hm;refine make_core Y (looks_findIn X hi) (λz=>Looks.of_pure (oi_bind z)) (.inr ⟨rfl,rfl⟩) ?_;have k:∀ b o,hh.get? b=some o->((hh.push emptyDict).push (instObj C hh.objs.size)).get? b=some o:=λb o e=>sw _ (sw _ e)
 have hx:((hh.push emptyDict).push (instObj C hh.objs.size)).get? (hh.objs.size+1)=some (instObj C hh.objs.size):=by heap_get
 have t1:Looks (model prog w) ((hh.push emptyDict).push (instObj C hh.objs.size)) (typeOf (.ref (hh.objs.size+1))) (.ref C):=Looks.andThen (Looks.ld hx) .now;have t2:Looks (model prog w) ((hh.push emptyDict).push (instObj C hh.objs.size)) (isInstance (.ref (hh.objs.size+1)) (.type "object")) true:=t1.andThen (Y.top.keeps k);refine codeAny_call_builtin oi_plain entry_oi (@check_slot (model prog w) _ _ _ "object.__init__" "object" "__init__" (.ref (hh.objs.size+1)) [] [] _ oi_kind oi_split t2 (oi_args _) ?_);rw[oi_run];exact am ⟨rfl,h⟩
structure JJ (K:Frag) (C:Addr):Prop where
 makes:makesIn K C=true
 init:findIn K (.ref C) "__init__"=some (some (.builtin "object.__init__"))
 kp:keepIn K (.ref C)=true
abbrev Jk (C:Addr):TE:=λ_ H Q=>∀ x dx,H x=none->H dx=none->dx≠x->Q (.ref x) (upd (upd H dx (.own x)) x (.ins C dx []))
def wY {C:Addr}{x:Str}(M:JJ X.K C)(hg:Gl X x)(hm:X.mg x=some (.ref C))(hdb:(x ==("__debug__":Str))=false):PE X (.Call (.Name x p) [] [] pos) (Jk C):=by
 intro Y s U H Q I h;refine bv (bw I hg hm ?_ hdb);refine W.callWith_K0 I.bO M.kp (wpAny_call (rE I.bO M.makes M.init ?_));have I2:=Inv.made (C:=C) I;exact⟨.ref (s.heap.objs.size+1),_,I2,rfl,h (s.heap.objs.size+1) s.heap.objs.size (I.hok.fresh (Nat.le_succ _)) (I.hok.fresh (pc _)) (ol (Nat.lt_succ_self _))⟩
@[reducible]def VV:List (V×V)->List (Value×Value)->Prop:=Paired λp q=>RelV p.1 q.1/\RelV p.2 q.2
abbrev PQ (X:Cx)(pos:Pos)(keys:List (Option Expr))(values:List Expr)(t:St->Hp->(List (V×V)->Hp->Prop)->Prop):Prop:=
 ∀ (Y:KG) (s:Shared) (U:St) (H:Hp) (Q:List (V×V)->Hp->Prop),Inv X Y U H s->t U H Q->
  wpAny (model X.prog X.w) X.A (evalPairs (pairTrees keys values X.env pos)) (λvs s'=>∃ ps H',Inv X Y U H' s'/\VV ps vs/\Q ps H') X.xe s
def EJ:PQ X pos [] [] (λ_ H Q=>Q [] H):=λY s U H Q I h=>pairTrees_nil_walk ⟨[],H,I,.nil,h⟩
variable {t:St->Hp->(List (V×V)->Hp->Prop)->Prop}{vs:List Expr}
def An {k v:Expr}{ks:List (Option Expr)}{tk tv:TE}(hk:PE X k tk)(hv:PE X v tv)(hr:PQ X pos ks vs t):
  PQ X pos (some k::ks) (v::vs) (λU H Q=>tk U H λx H1=>tv U H1 λy H2=>t U H2 λps H3=>Q ((x,y)::ps) H3):=λY s U H Q I h=>
 pairTrees_cons_walk (aw (hk Y s U H _ I h) λu s1 ⟨x,H1,I1,rx,q1⟩=>aw (hv Y s1 U H1 _ I1 q1) λw2 s2 ⟨y,H2,I2,ry,q2⟩=>
  aw (hr Y s2 U H2 _ I2 q2) λws s3 ⟨ps,H3,I3,rel,q3⟩=>⟨(x,y)::ps,H3,I3,.cons ⟨rx,ry⟩ rel,q3⟩)
abbrev g5 (kvs more:List (Key×V)):List (Key×V):=more.foldl (λacc kv=>putK acc kv.1 kv.2) kvs
def KV.merge:∀ {more:List (Key×V)}{rs:List (Key×Value)}{kvs:List (Key×V)}{vs:List (Key×Value)},KV more rs->KV kvs vs->KV (g5 kvs more) (merged vs rs):=by
 intro more rs kvs vs r;unfold KV at r
 induction r generalizing kvs vs with
 |nil=>intro q;exact q
 | @cons p q ps qs h t ih=>
  intro r0;have e:KV (putK kvs p.1 p.2) (stored vs q.1 q.2):=by
   have:=r0.put p.1 h.2;rw[<-h.1];exact this
  exact ih e
def eY:∀ (more kvs:List (Key×V)),(g5 kvs more).length<=kvs.length+more.length
 | [],kvs=>by show kvs.length<=kvs.length+0;omega
 |p::r,kvs=>by
  have h1:=eY r (putK kvs p.1 p.2);have h2:=dQ kvs p.1 p.2;show(g5 (putK kvs p.1 p.2) r).length<=_;rw[length_cons];omega
def jP {P:Program}{w:World}:∀ {kvs:List (Key×V)}{ws:List (Value×Value)},VV (kvs.map λkv=>(kV kv.1,kv.2)) ws->∃ rs,Carries (au P w) ws rs/\KV kvs rs
 | [],_,r=>by rw[List.map_nil]at r;cases r;exact⟨[],True.intro,.nil⟩
 |p::kvs,_,r=>by
  rw[map_cons]at r;cases r with
  | @cons a b as bs h t=>
   obtain⟨rs,c,q⟩:=jP (P:=P) (w:=w) t;obtain⟨b1,b2⟩:=b;exact⟨(p.1,b2)::rs,⟨nZ h.1,rfl,c⟩,.cons ⟨rfl,h.2⟩ q⟩
abbrev F4 (t:St->Hp->(List (V×V)->Hp->Prop)->Prop):TE:=λU H Q=>∀ p,H p=none->t U (upd H p (.dK [])) λps H2=>H2 p=some (.dK [])/\∃ kvs:List (Key×V),ps=kvs.map (λkv=>(kV kv.1,kv.2))/\kvs.length<=15/\Q (.ref p) (upd H2 p (.dK (g5 [] kvs)))
def A8 {keys:List (Option Expr)}{values:List Expr}(h:PQ X pos keys values t)(hall:keys.all (·.isSome)=true)(hl:keys.length=values.length)(h0:keys≠[])
  (h15:keys.length<=15):PE X (.Dict keys values pos) (F4 t):=by
 intro Y s U H Q I q;have hn:=I.hok.fresh (pc s.heap.objs.size);have I1:=I.laid (a:=s.heap.objs.size) (o:=.dK []) (h':=s.heap.push { cls:=.type "dict",data:=.dict #[] }) (t':=s.toks) (λ_ _ q=>sw _ q) (pc _) (wx s.heap I.big);refine wpAny_Dict_walk (knd:=au X.prog X.w) hall hl h0 h15 (aw (h Y _ U _ _ I1 (q _ hn)) λws s2 ⟨ps,H2,I2,rel,e,kvs,ep,lk,q2⟩=>?_);subst ep;obtain⟨rs,c,rk⟩:=jP (P:=X.prog) (w:=X.w) rel;obtain⟨z,hd,vs0,r0,dd⟩:=Bu I2.hok e;cases r0;refine⟨rs,c,dd,λh' dd' hs=>⟨.ref s.heap.objs.size,_,?_,rfl,q2⟩⟩;have hz:(g5 [] kvs).length<=bn:=by
  have h1:=eY kvs [];rw[length_nil]at h1;rw[sizeLine_eq];omega
 have he:∃ q,h'.get? s.heap.objs.size=some q:=let⟨q,_,_,hq,_⟩:=dd';⟨q,hq⟩;exact nh I2 (by rw[e];exact True.intro) hs he (qC hz hd (rk.merge .nil) dd')
abbrev xX:Expr->Nat
 | .Tuple vs _ _=>vs.length
 |_=>0
abbrev D5 (sc:Scope)(tg v:Expr)(ns:List Str):Bool:=match swappedStores [tg] v { scope:=sc,locals:=0,globals:=0,cells:=[] } with
 | .pure (some l)=>l ==ns&&decide (xX v=ns.length)
 |_=>false
variable {tg:Expr}{ns:List Str}
def wu {env:Env}{v:Expr}(h:D5 env.scope tg v ns=true):swappedStores [tg] v env=pure (some ns):=by
 have e:swappedStores [tg] v env=swappedStores [tg] v { scope:=env.scope,locals:=0,globals:=0,cells:=[] }:=by
  obtain⟨sc,a,b,c,d,f,g,i,j⟩:=env
  rfl
 rw[e];unfold D5 at h
 split at h
 .rename_i l e2;rw[lw]at h;rw[e2,beq_iff_eq.mp h.1]
  rfl
 .cases h
variable {sc:Scope}
def tw {v:Expr}(h:D5 sc tg v ns=true):xX v=ns.length:=by
 unfold D5 at h
 split at h
 .rw[lw,decide_eq_true_eq]at h;exact h.2
 .cases h
def AX {x y:Str}(h:D5 sc tg (.Tuple vs k p) [x,y]=true):∃ a b,vs=[a,b]:=by
 have h:=tw h
 match vs,h with
 | [a,b],_=>exact⟨a,b,rfl⟩
def uZ {x y z:Str}(h:D5 sc tg (.Tuple vs k p) [x,y,z]=true):∃ a b c,vs=[a,b,c]:=by
 have h:=tw h
 match vs,h with
 | [a,b,c],_=>exact⟨a,b,c,rfl⟩
abbrev FR (i j:Nat)(ta:TA):TS:=λD U H=>ta U H λvs H1=>∃ v w,vs=[v,w]/\D.nx ((U.set i (some v)).set j (some w)) H1
def zO {i j:Nat}{x y:Str}{a b:Expr}{px py pt:Pos} {kt k2 pt2} (hc:X.calm=true)(hN:X.N.Nodup)(hi:X.N[i]? =some x)(hj:X.N[j]? =some y)(hij:i≠j)
  (hx:X.env.scope.names.lookup x=some .local) (hy:X.env.scope.names.lookup y=some .local) (ha:PA X [a,b] ta)
  (hw:swappedStores [.Tuple [.Name x px,.Name y py] kt pt] (.Tuple [a,b] k2 pt2) X.env=pure (some [x,y]))
  (hs:swapsWithSole [.Tuple [.Name x px,.Name y py] kt pt] (.Tuple [a,b] k2 pt2) pos.line X.env=pure false:=by rfl):
  PS X (.Assign [.Tuple [.Name x px,.Name y py] kt pt] (.Tuple [a,b] k2 pt2) pos) (FR i j ta):=by
 intro Y s U H D I h;rw[exec_Assign_arm];refine ad (wpAny_standAt ?_);rw[hs];refine ad (am ?_);rw[if_neg (by decide)];refine ad (Tuple_ (aw (ha _ Y s U H _ I h) λus s1 ⟨vs,H1,I1,r1,q1⟩=>?_));obtain⟨v,w,e1,q1⟩:=q1;subst e1;obtain⟨u1,u2,rfl,rv,rw'⟩:∃ u1 u2,us=[u1,u2]/\RelV v u1/\RelV w u2:=by
  cases r1 with
  |cons p q=>
   cases q with
   |cons p' q'=>
    cases q';exact⟨_,_,rfl,p,p'⟩
 refine wpAny_newObj_type ?_ (by show 2<=bn;decide);have I2:Inv X Y U H1 { s1 with heap:=s1.heap.push { cls:=.type "tuple",data:=.seq [u1,u2].toArray } }:=I1.kept (t':=s1.toks) λb o e=>sw _ e
 rw[hw];refine ad (am ?_);show wpAny (model X.prog X.w) X.A (do rule "assign.swapped-stores";let items <-unpackItems (.ref s1.heap.objs.size) 2 none;assignInOrder [λv=>bindName X.env y v,λv=>bindName X.env x v] items.reverse;pure Flow.next) _ _ _;refine ad (wpAny_rule (ad (unpackItems_tuple (items:=#[u1,u2]) (I.ok.hd hc) (IsTup.new s1.heap _) λh' hx'=>?_)));have I3:=I2.kept (h':=h') (t':=s1.toks) λb o e=>hx' b o (ol (sK e)) e
 show wpAny _ _ (assignInOrder [λv=>bindName X.env y v,λv=>bindName X.env x v] [u2,u1] >>= λ_=>pure Flow.next) _ _ _;refine ad (assignInOrder_cons (wpAny_bindName (a7 I3 hN hj (.inl hy) rw' (λs2 I4=>?_) (.inr hy))));refine assignInOrder_cons (wpAny_bindName (a7 I4 hN hi (.inl hx) rv (λs3 I5=>assignInOrder_nil (am ?_)) (.inr hx)));rw[set_comm _ _ (Ne.symm hij)]at I5;exact⟨_,H1,I5,q1⟩
abbrev Fd (i j l:Nat)(ta:TA):TS:=λD U H=>ta U H λvs H1=>∃ v w x,vs=[v,w,x]/\D.nx (((U.set i (some v)).set j (some w)).set l (some x)) H1
def yL {i j l:Nat}{x y z:Str}{a b c:Expr}{px py pz pt:Pos} {kt k2 pt2} (hc:X.calm=true)(hN:X.N.Nodup)(hi:X.N[i]? =some x)(hj:X.N[j]? =some y)(hl:X.N[l]? =some z)(hij:i≠j)(hil:i≠l)(hjl:j≠l)
  (hx:X.env.scope.names.lookup x=some .local) (hy:X.env.scope.names.lookup y=some .local) (hz:X.env.scope.names.lookup z=some .local) (ha:PA X [a,b,c] ta)
  (hw:swappedStores [.Tuple [.Name x px,.Name y py,.Name z pz] kt pt] (.Tuple [a,b,c] k2 pt2) X.env=pure (some [x,y,z]))
  (hs:swapsWithSole [.Tuple [.Name x px,.Name y py,.Name z pz] kt pt] (.Tuple [a,b,c] k2 pt2) pos.line X.env=pure false:=by rfl):
  PS X (.Assign [.Tuple [.Name x px,.Name y py,.Name z pz] kt pt] (.Tuple [a,b,c] k2 pt2) pos) (Fd i j l ta):=by
 intro Y s U H D I h;rw[exec_Assign_arm];refine ad (wpAny_standAt ?_);rw[hs];refine ad (am ?_);rw[if_neg (by decide)];refine ad (Tuple_ (aw (ha _ Y s U H _ I h) λus s1 ⟨vs,H1,I1,r1,q1⟩=>?_));obtain⟨v,w,x',e1,q1⟩:=q1;subst e1;obtain⟨u1,u2,u3,rfl,rv,rw',rx'⟩:∃ u1 u2 u3,us=[u1,u2,u3]/\RelV v u1/\RelV w u2/\RelV x' u3:=by
  cases r1 with
  |cons p q=>
   cases q with
   |cons p' q'=>
    cases q' with
    |cons p2 q2=>
     cases q2;exact⟨_,_,_,rfl,p,p',p2⟩
 refine wpAny_newObj_type ?_ (by show 3<=bn;decide);have I2:Inv X Y U H1 { s1 with heap:=s1.heap.push { cls:=.type "tuple",data:=.seq [u1,u2,u3].toArray } }:=I1.kept (t':=s1.toks) λb o e=>sw _ e
 rw[hw];refine ad (am ?_);show wpAny (model X.prog X.w) X.A (do rule "assign.swapped-stores";let items <-unpackItems (.ref s1.heap.objs.size) 3 none;assignInOrder [λv=>bindName X.env z v,λv=>bindName X.env y v,λv=>bindName X.env x v] items.reverse;pure Flow.next) _ _ _;refine ad (wpAny_rule (ad (unpackItems_tuple (items:=#[u1,u2,u3]) (I.ok.hd hc) (IsTup.new s1.heap _) λh' hx'=>?_)));have I3:=I2.kept (h':=h') (t':=s1.toks) λb o e=>hx' b o (ol (sK e)) e
 show wpAny _ _ (assignInOrder [λv=>bindName X.env z v,λv=>bindName X.env y v,λv=>bindName X.env x v] [u3,u2,u1] >>= λ_=>pure Flow.next) _ _ _;refine ad (assignInOrder_cons (wpAny_bindName (a7 I3 hN hl (.inl hz) rx' (λs2 I4=>?_) (.inr hz))));refine assignInOrder_cons (wpAny_bindName (a7 I4 hN hj (.inl hy) rw' (λs3 I5=>?_) (.inr hy)));refine assignInOrder_cons (wpAny_bindName (a7 I5 hN hi (.inl hx) rv (λs4 I6=>assignInOrder_nil (am ?_)) (.inr hx)));rw[set_comm _ _ (Ne.symm hij),set_comm _ _ (Ne.symm hil),set_comm _ _ (Ne.symm hjl)]at I6;exact⟨_,H1,I6,q1⟩
abbrev rl (K:W.Frag)(C:Addr):Bool:=findIn K (.ref C) "__ne__" ==some (some (.builtin "object.__ne__"))&&yr K C
section
variable {A:Around}{s:Shared}{l C dx:Addr}{od:Option Obj}{K:W.Frag}{prog:Program}{w:World}{E:KD}
def Gv (X:K.In s.heap)(I:InstAt s.heap l (instObj C dx) C od)(h1:findIn K (.ref C) "__eq__"=some (some (.builtin "object.__eq__"))) (h3:subIn K (.ref C) (.type "object")=some true) (h:Q (some (.bool true)) s):wpAny (model prog w) A (callSpecialIfBound? (.ref l) "__eq__" [.ref l]) Q E s:=by
 simp only[callSpecialIfBound?,bindSpecialIfBound?];refine bd (ad (ad (ad (I.type.here ((looks_findIn X h1).here ?_)))));simp only[PySem.F.cmp_object.eq.bind];have fin:wpAny (model prog w) A (call (.builtin "object.__eq__") ([.ref l]++[.ref l]) >>= λv=>pure (some v)) Q E s:=by
  refine ad (wpAny_call (codeAny_call_builtin PySem.F.cmp_object.eq.plain PySem.F.cmpEntry_eq ?_));simp only[checkBuiltinCall,PySem.F.cmpKind_eq,PySem.F.cmpSplit_eq];refine ad (ad (I.type.here ((looks_subIn X h3).here ?_)));rw[if_neg (by simp)];have ha:=PySem.F.cmpArgs_eq (.ref l) (.ref l);have h0:(match Manifest.signature? "object.__eq__" with|some sig=>Bind.checkArgs "object.__eq__" sig { pos:=[Value.ref l]++[Value.ref l] }|x=>pure ())=pure ():=ha;refine wpAny_of_eq h0 ?_;exact objEq_entry_same (am h)
 refine ad (wpAny_askSetting (wpAny_ite ?_))
 split
 .exact ad (am (am fin))
 .exact wpAny_tryCatch (ad (am (am fin)))
def F5 (X:K.In s.heap)(I:InstAt s.heap l (instObj C dx) C od)(h1:findIn K (.ref C) "__eq__"=some (some (.builtin "object.__eq__"))) (h2:findIn K (.ref C) "__ne__"=some (some (.builtin "object.__ne__"))) (h3:subIn K (.ref C) (.type "object")=some true) (hu:A.units+2<cLine) (h:Q (some (.bool false)) s):wpAny (model prog w) A (callSpecialIfBound? (.ref l) "__ne__" [.ref l]) Q E s:=by
 simp only[callSpecialIfBound?,bindSpecialIfBound?];refine bd (ad (ad (ad (I.type.here ((looks_findIn X h2).here ?_)))));simp only[PySem.F.cmp_object.ne.bind];have fin:wpAny (model prog w) A (call (.builtin "object.__ne__") ([.ref l]++[.ref l]) >>= λv=>pure (some v)) Q E s:=by
  refine ad (wpAny_call (codeAny_call_builtin PySem.F.cmp_object.ne.plain PySem.F.cmpEntry_ne ?_));simp only[checkBuiltinCall,PySem.F.cmpKind_ne,PySem.F.cmpSplit_ne];refine ad (ad (I.type.here ((looks_subIn X h3).here ?_)));rw[if_neg (by simp)];have ha:=PySem.F.cmpArgs_ne (.ref l) (.ref l);have h0:(match Manifest.signature? "object.__ne__" with|some sig=>Bind.checkArgs "object.__ne__" sig { pos:=[Value.ref l]++[Value.ref l] }|x=>pure ())=pure ():=ha;refine wpAny_of_eq h0 ?_;unfold Builtin.«object.__ne__»;show wpAny _ _ (pure (Value.ref l,[Value.ref l]) >>= _) _ _ _;refine ad (am ?_);refine ad (wpAny_cRoomFor (show A.units+1<cLine by omega) ?_);refine ad (Gv X I h1 h3 ?_);refine ad (bi ?_);exact am (am h)
 refine ad (wpAny_askSetting (wpAny_ite ?_))
 split
 .exact ad (am (am fin))
 .exact wpAny_tryCatch (ad (am (am fin)))
def u0 (X:K.In s.heap)(I:InstAt s.heap l (instObj C dx) C od)(hC:rl K C=true)(hu:A.units+3<cLine):SeqAt.RcNeAt A s (.ref l) (.ref l) false:=λprog w E Q h=>by
 unfold rl yr at hC;simp only[lw,beq_iff_eq]at hC;obtain⟨h0,⟨h1,h2⟩,h3⟩:=hC;simp only[richCompare,PySem.cmpInfo_NotEq]
 try with_reducible refine bd ?_
 refine ad (wpAny_cRoomFor nofun ?_);show wpAny _ _ (typeOf (Value.ref l) >>= _) _ _ _;refine ad (I.type.here (ad (I.type.here ?_)));rw[if_neg (by simp)];refine ad (am ?_);rw[if_neg (by simp)];refine ad ?_;simp only[tryCompare];refine ad (F5 X I h1 h0 h3 nofun ?_);exact am (am h)
def He (d:Addr)(hd:(d ==sysModules)=false)(dd:Option Addr)(ep:Nat)(sl:Array (Option Value)):Meets (Builtin.«dict.__ne__» ⟨[.ref d,.ref d],[]⟩) (λ_ R s=>s.heap.get? d=some ⟨.type "dict",dd,.dict #[] ep,sl⟩/\R (.ok (.ret (.bool false))) s):=by
 intro prog w A R s hs;obtain⟨h,g,dp,tt,os⟩:=s;obtain⟨ho,q⟩:=hs;have hT:(⟨h,g,dp,tt,os⟩:Shared).TypeIs (.ref d) "dict":=⟨_,ho,rfl⟩;unfold Builtin.«dict.__ne__»
 k_delta "equality"
 unfold Builtin.Dict.dictSlotArgs;refine ad (ad (wpAny_notOrdered_dict hT ?_));show wpAny _ _ (pure (Value.ref d,[Value.ref d]) >>= _) _ _ _;refine ad (am (am ?_));have hi:=PySem.F.kt_sub_dict;show wpAny _ _ (isInstance (.ref d) (.type "dict") >>= _) _ _ _;unfold Builtin.Dict.samePairs;simp only[Std.Legacy.Range.forIn_eq_forIn_range']
 repeat(any_goals first|assumption|wp_step)
def zm (hd:(d ==sysModules)=false){ep:Nat}(ho:s.heap.get? d=some ⟨.type "dict",dd,.dict #[] ep,sl⟩) (hu:A.units<cLine):SeqAt.RcNeAt A s (.ref d) (.ref d) false:=λprog w E Q h=>
 richCompare_meets_room (op:=.NotEq) ⟨_,ho,rfl⟩ ⟨_,ho,rfl⟩ PySem.F.slot_dict_ne PySem.F.entry_dict_ne (PySem.F.args_dict_ne_2 _ _) (He d hd dd ep sl) ⟨ho,show Value.bool false≠Value.notImplemented/\Q (.bool false) s from⟨(λx=>nomatch x),h⟩⟩ hu
abbrev vZ (K:W.Frag)(H:Hp)(a:Addr):Prop:=(∃ xs,aZ K H a xs)\/H a=some (.dK [])\/(∃ C dx fs,H a=some (.ins C dx fs)/\rl K C=true)\/∃ xs,aY K H a xs
def yJ {a:Addr}(I:Inv X Y U H s)(h:vZ X.K H a)(hu:A.units+3<cLine):SeqAt.RcNeAt A s (.ref a) (.ref a) false:=by
 rcases h with⟨xs,h⟩|h|⟨C,dx,fs,h,hn⟩|⟨xs,h⟩
 .obtain⟨ia,ra,pa,_⟩:=I.tuple h;have rc:=SeqAt.RcNeAt.tuples (A:=A) (e:=λ_=>true) (show s.heap.IsTuple a ia.toArray from pa) (show s.heap.IsTuple a ia.toArray from pa) nofun λj h1 h2=>SeqAt.EqAt.same _
  have e:((List.range (min ia.toArray.size ia.toArray.size)).all (λ_=>true)&&ia.toArray.size ==ia.toArray.size)=true:=by simp
  rw[e]at rc;exact rc
 .obtain⟨z,hd,vs,rel,dd⟩:=eP I.hok (.inl h);cases rel;obtain⟨⟨c,d,da,sl⟩,es,ep,ho,hx,he,_,hp,_⟩:=dd;have e0:es=#[]:=by
   cases hp':es.toList with
   |nil=>exact Array.toList_eq_nil_iff.mp hp'
   |cons a b=>rw[hp']at hp;cases hp
  subst e0;obtain rfl:da=.dict #[] ep:=he;obtain⟨rfl,_⟩:=hx;exact zm hd ho nofun
 .obtain⟨mA,o,_⟩:=gr I.hok h;obtain⟨od,i,_⟩:=o.look;exact u0 I.bO i hn hu
 .obtain⟨ia,ra,pa,_⟩:=I.list h;have rc:=SeqAt.RcNeAt.lists (A:=A) (e:=λ_=>true) pa.isList pa.isList rfl nofun λj h1 h2=>SeqAt.EqAt.same _
  have e:(List.range ia.toArray.size).all (λ_=>true)=true:=by simp
  rw[e]at rc;exact rc
end
end L2
namespace L2
open PySem PySem.Spec PyProof.Rows
section
variable {X:Cx}{tg:Expr}
end
end L2
namespace L2
open PySem PySem.Spec PySem.W PyProof.Rows
open PySem.AutoSeq1 (wpAny_loadPart')
section
variable {prog:Program}{w:World}{A:Around}{E:KD}{s:Shared}
end
section
variable {X:Cx}{Y:KG}{U:St}{H:Hp}{s:Shared}
end
section
variable {prog:Program}{w:World}{A:Around}{E:KD}{s:Shared}
variable {z TI TO i1 i2 i3 l1 l2 l3:Addr}{k1 k2 k3:Nat}{tp1 tp2 tp3:Bool}{xs ys zs:Array Value}{x y v a b c f1:Value}
end
variable {X:Cx}{e es:Expr}{te:TE}{ts:TO}{p2 pos:Pos}
def tD:∀ {xs:List V}{us:List Value},xs.length=us.length->(∀ (j:Nat) (x:V) (u:Value),xs[j]? =some x->us[j]? =some u->RelV x u)->Vals xs us
 | [],[],_,_=>.nil
 |x::xs,u::us,e,h=>.cons (h 0 x u rfl rfl) (tD (Nat.succ.inj e) λj a b e1 e2=>h (j+1) a b e1 e2)
def jh:∀ {kvs:List (Key×V)}{vs:List (Key×Value)},KV kvs vs->kvs.map (·.1)=vs.map (·.1)
 |_,_,.nil=>rfl
 |_,_,.cons r rs=>by rw[map_cons,map_cons,r.1,jh rs]
def qF {Y:KG}{U:St}{H:Hp}{s:Shared}{Q:VK}{d:Addr}{kvs:List (Key×V)}(hc:X.calm=true)(I:Inv X Y U H s)(e:Rd H d (.dK kvs))(q:∀ p,H p=none->Q (.ref p) (upd H p (.lst (kvs.map (λkv=>kV kv.1))))):
  wpAny (model X.prog X.w) X.A (call (.type "list") [.ref d]) (EP X Y U Q) X.xe s:=by
 obtain⟨hz,hd,vs,rel,dd⟩:=eP I.hok e;obtain⟨o,es,ep,ho,hx,he,hk,hp,hn⟩:=dd;have hA:s.heap.DictAt (au X.prog X.w) d vs ep:=⟨o,es,ho,hx,he,hk,hp,hn⟩;have hl:vs.length<=bn:=by rw[<-rel.length];exact hz
 refine kdl_call (kdl_dict hd) (I.ok.hd hc) hA hl λh' tk acc c' hk' hD hi=>?_
 have r:Vals (kvs.map (λkv=>kV kv.1)) acc.toList:=tD ((ce ..).trans (rel.length.trans (hi.1.symm.trans Array.length_toList.symm))) λj x u e1 e2=>by
  rw[im]at e1;obtain⟨⟨k,y⟩,ek,rfl⟩:=nb.mp e1;obtain⟨k',y',ek',hs⟩:=hi.2 j u (by rw[<-Array.getElem?_toList];exact e2);have ekk:k=k':=by
   have h2:(kvs.map (·.1))[j]? =(vs.map (·.1))[j]? :=by rw[jh rel]
   rw[im,im,ek,ek']at h2;exact Option.some.inj h2
  subst ekk;rcases aF hs with⟨i,t,rfl,rfl⟩|⟨z,t,rfl,rfl⟩
  .exact⟨t,rfl⟩
  .exact⟨t,rfl⟩
 exact⟨.ref _,_,I.laid (t':=tk) hk' (pc _) (show aC X.prog X.w _ h' _ (.lst (kvs.map (λkv=>kV kv.1))) from⟨by rw[ce];exact hz,acc.toList,c',r,by rw[Array.toArray_toList];exact hD⟩),rfl,q _ (I.hok.fresh (pc _))⟩
end L2
namespace L2
open PySem PySem.Spec PyProof.Rows
abbrev E3 (z:Str):It:=⟨λi _=>i<z.cps.size,λi H x H'=>H'=H/\∃ c,z.cps[i]? =some c/\x=.str ⟨#[c]⟩,λi _=>z.cps.size<=i⟩
def xT {P:Program}{w:World}{K:W.Frag}{tg:Expr}(it:Addr)(z:Str)(t:Tok):Turn P w K tg (E3 z) [it] it (λi h=>h.IsStrIter it (strIterType z) z t i) where
 mem:=by simp
 obj:=λi h st b hb=>by
  have e:b=it:=by simpa using hb
  subst e;obtain⟨o,e,c,d⟩:=st;exact⟨o,e,λv z=>by rw[d]at z;cases z⟩
 keep:=λi h h' st k=>let⟨o,ho,r⟩:=st;⟨o,k it (by simp) o ho,r⟩
 item:=by
  intro X hP hw hK hc i Y s U H E I hf st hg;subst hP hw hK;obtain⟨f0,f1,f2,f3,f4,f5⟩:=hf it (by simp);have go:∀ T,(T="str_ascii_iterator"\/T="str_iterator")->strIterType z=T->wpAny (model X.prog X.w) X.A (pyNext (.ref it)) (λr s1=>∃ u,r=some u/\
   wpAny (model X.prog X.w) X.A (letOwnedTupleGo tg (.ref it) u) (λ_ s2=>∃ x H',Inv X Y U H' s2/\RelV x u/\(E3 z).yld i H x H'/\s2.heap.IsStrIter it (strIterType z) z t (i+1)/\∀ b ∈ [it],H' b=none) E s1) E s:=by
   intro T hT eT;rw[eT]at st⊢;have fin:∀ v h' tk,SignAt z i v->h'.IsStrIter it T z t (i+1)->(∀ b o,b ∉ [it]->s.heap.get? b=some o->h'.get? b=some o)->∃ u,some v=some u/\
    wpAny (model X.prog X.w) X.A (letOwnedTupleGo tg (.ref it) u) (λ_ s2=>∃ x H',Inv X Y U H' s2/\RelV x u/\(E3 z).yld i H x H'/\s2.heap.IsStrIter it T z t (i+1)/\∀ b ∈ [it],H' b=none) E { s with heap:=h',toks:=tk }:=by
    intro v h' tk hv st' kk;obtain⟨c,u,hc',rfl⟩:=hv;have I1:Inv X Y U H { s with heap:=h',toks:=tk }:=I.turned (λb o hb e=>kk b o (by simpa using hb) e) f0 f1 f3 f4 f5;obtain⟨o,e,cc,d⟩:=id st';exact⟨_,rfl,tI (s:={ s with heap:=h',toks:=tk }) e cc d (by rcases hT with rfl|rfl<;>decide) ⟨.str ⟨#[c]⟩,H,I1,⟨u,rfl⟩,⟨rfl,c,hc',rfl⟩,st',λb hb=>(hf b hb).1⟩⟩
   rcases hT with rfl|rfl
   .exact(Walks.strAscii (prog:=X.prog) (w:=X.w) (I.ok.hd hc) it z t).item i s _ _ hg st fin
   .exact(Walks.strWide (prog:=X.prog) (w:=X.w) (I.ok.hd hc) it z t).item i s _ _ hg st fin
  have hz:strIterType z="str_ascii_iterator"\/strIterType z="str_iterator":=by unfold strIterType;split<;>simp
  exact go _ hz rfl
 done:=by
  intro X hP hw hK hc i Y s U H E I hf st hg;subst hP hw hK;obtain⟨f0,f1,f2,f3,f4,f5⟩:=hf it (by simp);have hx:z.cps[i]? =none:=Array.getElem?_eq_none hg;have fin:∀ h',Heap.ExtBut it s.heap h'->(none:Option Value)=none/\Inv X Y U H { s with heap:=h' }:=λh' eb=>⟨rfl,I.turned (t':=s.toks) (λb o hb e=>eb b o hb e) f0 f1 f3 f4 f5⟩
  unfold strIterType at st
  split at st
  .exact wpAny_pyNext_ascii_end (I.ok.hd hc) st hx fin
  .exact wpAny_pyNext_wide_end (I.ok.hd hc) st hx fin
 self:=λ_ _ _ _ _ st h=>by
  unfold strIterType at st
  split at st
  .exact wpAny_pyIter_striter_ascii st h
  .exact wpAny_pyIter_striter_wide st h
def ym {X:Cx}{tg:Expr}{Y:KG}{U:L2.St}{H1:Hp}{s1:Shared}{R:It->Hp->Prop}{z:Str}{v:Value}(I1:Inv X Y U H1 s1)(r:RelV (.str z) v)(q:R (E3 z) H1):
  wpAny (model X.prog X.w) X.A (pyIter v) (G7 X Y U tg R) X.xe s1:=by
 obtain⟨t,rfl⟩:=r;refine wpAny_pyIter_strU ?_;refine⟨s1.heap.objs.size,[s1.heap.objs.size],_,_,H1,rfl,I1.kept (t':=s1.toks) λb o e=>sw _ e,xT _ z t,⟨_,tz _ rfl,rfl,rfl⟩,λb hb=>?_,q⟩;have e:b=s1.heap.objs.size:=by simpa using hb
 subst e;exact I1.uS (pc _) (I1.hok.fresh (pc _))
def Inv.iY {X:Cx}{Y:KG}{U:L2.St}{H:Hp}{s:Shared}{d:Addr}{kvs:List (Key×V)}(I:Inv X Y U H s)(e:H d=some (.dK kvs)):∃ o,Inv X Y U (upd H d (.iY o (.dK kvs))) s:=by
 obtain⟨_,_,vs,rel,o,es,ep,ho,r⟩:=id (show aC X.prog X.w H s.heap d (.dK kvs) from I.hok d _ e);have ne:∀ b u,H b=some u->u≠.dK kvs->b≠d:=λb u hb hn z=>by subst z;rw[e]at hb;cases hb;exact hn rfl
 refine⟨o,I.step (h':=s.heap) (t':=s.toks) (g':=s.gens) (d':=s.drawn) (ch:=[]) (λ_ z=>nomatch z) (λb o _ _ _ e _=>e) (λb o _ _ _ e _=>⟨o.slots,e⟩) (λb o _ _ n=>by rw[af (λz=>by subst z;rw[e]at n;cases n)];exact n) (λb o _ e=>⟨o,e⟩)
  (λb xs h=>by rw[af (ne b _ h (λz=>by cases z))];exact h) (λb o u h=>by rw[af (ne b _ h (λz=>by cases z))];exact h) (λb ps h=>⟨#[],by rw[af (ne b _ h (λz=>by cases z)),h];simp⟩) (λm hm=>hm) (λb u hb=>?_) I.bare⟩
 have eC:∀ b u,H b=some u->aC X.prog X.w (upd H d (.iY o (.dK kvs))) s.heap b u:=λb u hb=>(I.hok b u hb).eC (λ_ _ _ e=>e) (λc hc=>by rw[af (ne c _ hc (λz=>by cases z))];exact hc) (λc xs hc=>by rw[af (ne c _ hc (λz=>by cases z))];exact hc)
 by_cases z:b=d
 .subst z;rw[av]at hb;cases hb;exact⟨ho,eC _ _ e⟩
 .rw[af z]at hb;exact eC b u hb
section
variable {X:Cx}
end
end L2
namespace L2
open PySem PySem.Spec PySem.W PyProof.Rows SeqAt
open AutoSeq1 (wpAny_loadPart')
open MeetsSeq MeetsSeq2 MeetsSeq3 SeqRoads2
section
variable {prog:Program}{w:World}
abbrev Jw (prog:Program)(w:World)(A:Around)(s:Shared)(y x:Value):Prop:=∀ (E:KD) (Q:Bool->Shared->Prop),Q true s->wpAny (model prog w) A (eqBool y x) Q E s
def xk (l b:Addr)(items items2:Array Value)(n n2:Nat)(dd dd2:Option Addr)(sl sl2:Array (Option Value))(hsz:items.size=items2.size)(k:Nat):
  ∀ i:Nat,items.size-i=k->∀ (A:Around) (R:Result->Shared->Prop) (s:Shared),s.heap.get? l=some { cls:=.type "list",dict:=dd,data:=.seq items n,slots:=sl }->s.heap.get? b=some { cls:=.type "list",dict:=dd2,data:=.seq items2 n2,slots:=sl2 }->
   (∀ j (h1:j<items.size) (h2:j<items2.size),Jw prog w A.in1 s items[j] items2[j])->R (.ok (.ret (.bool true))) s->
   wpAny (model prog w) A.in1 (Builtin.«list.__eq__.loop» ⟨[.ref l,.ref b,rawInt i,rawInt 2],[]⟩) (λfin s'=>match fin with| .done f=>R (.ok f) s'| .again c'=>c'.quiet=true/\codeAny (model prog w) A c' R s') (λe s'=>R (.error e) s') s:=by
 induction k with
 |zero=>
  intro i hk A R s hl hb he h;obtain⟨hp,g,d,tk,os⟩:=s
  wp_walk using wpAny_loadPart' hl,wpAny_loadPart' hb
  have hi1:items[((i:Nat):Int).toNat]? =none:=by simp;omega
  have hi2:items2[((i:Nat):Int).toNat]? =none:=by simp;omega
  rw[hi1,hi2]
  wp_walk using wpAny_loadPart' hl,wpAny_loadPart' hb
  show R (.ok (.ret (.bool (items.size ==items2.size)))) _;rw[hsz];simpa using h
 |succ k ih=>
  intro i hk A R s hl hb he h;obtain⟨hp,g,d,tk,os⟩:=s
  wp_walk using wpAny_loadPart' hl,wpAny_loadPart' hb
  have hlt:i<items.size:=by omega
  have hlt2:i<items2.size:=by omega
  have hi1:items[((i:Nat):Int).toNat]? =some items[i]:=by simp[hlt]
  have hi2:items2[((i:Nat):Int).toNat]? =some items2[i]:=by simp[hlt2]
  have hc:((i:Int)+1)=((i+1:Nat):Int):=by push_cast;rfl
  rw[hi1,hi2];refine ad (he i hlt hlt2 _ _ ?_)
  wp_walk
  rw[hc];exact⟨plainId_quiet plain_eq_loop _,codeAny_builtin entry_eq_loop (by
   rw[Around.under_plainId plain_eq_loop _];exact ih (i+1) nofun A R _ hl hb he h)⟩
def xx {A:Around}{E:KD}{Q:KD}{s:Shared}{l b:Addr}{items items2:Array Value}(hl:s.heap.IsList l items)(hb:s.heap.IsList b items2)(hsz:items.size=items2.size)(hu:A.units<cLine)
  (he:∀ j (h1:j<items.size) (h2:j<items2.size),Jw prog w A.in1 s items[j] items2[j]) (h:Q (.bool true) s):wpAny (model prog w) A (richCompare .Eq (.ref l) (.ref b)) Q E s:=by
 obtain⟨⟨cls,dd,data,sl⟩,ho,hc,n,hd⟩:=id hl;obtain⟨⟨cls2,dd2,data2,sl2⟩,ho2,hc2,n2,hd2⟩:=id hb;simp only at hc hd hc2 hd2;subst hc hd hc2 hd2;refine wpAny_richCompare_same_room (op:=.Eq) (T:="list") ⟨_,ho,rfl⟩ ⟨_,ho2,rfl⟩ F.slot_list_eq (wpAny_call (codeAny_call_builtin F.slot_list_eq.plain F.entry_list_eq (F.slot_list_eq.check _ _ _ _ _ _ _ _ ⟨_,ho,rfl⟩ (F.args_list_eq_2 _ _) ?_))) hu;obtain⟨hp,g,d,tk,os⟩:=s;have f3:=AutoSeq1.sub_list_list;have hne:¬ (items.size != items2.size)=true:=by simp[hsz]
 wp_walk using wpAny_loadPart' ho,wpAny_loadPart' ho2
 exact⟨plainId_quiet plain_eq_loop _,codeAny_builtin entry_eq_loop (by
  rw[Around.under_plainId plain_eq_loop _];exact xk l b items items2 n n2 dd dd2 sl sl2 hsz _ 0 rfl A (wants (λv s'=>v≠Value.notImplemented/\Q v s') E) _ ho ho2 he (show Value.bool true≠Value.notImplemented/\Q (.bool true) _ from⟨(λx=>nomatch x),h⟩))⟩
end
end L2
namespace L2
open PySem PySem.Spec PyProof.Rows
inductive ff (K:W.Frag) (H:Hp):Nat->V->V->Bool->Prop where
 |flat {n:Nat}{x y:V}(fx:aN x=true) (fy:aN y=true):ff K H n x y (cJ x y)
 |same {n:Nat}(a:Addr):ff K H (n+1) (.ref a) (.ref a) true
 |ll {n:Nat}{a b:Addr}{xs ys:List V}{e:Nat->Bool}(ha:aY K H a xs) (hb:aY K H b ys) (hl:xs.length=ys.length) (h:∀ j x y,xs[j]? =some x->ys[j]? =some y->ff K H (n+1) x y (e j)):ff K H (n+2) (.ref a) (.ref b) ((List.range xs.length).all e)
 |tt {n:Nat}{a b:Addr}{xs ys:List V}{e:Nat->Bool}(ha:aZ K H a xs) (hb:aZ K H b ys) (h:∀ j x y,xs[j]? =some x->ys[j]? =some y->ff K H (n+1) x y (e j)):ff K H (n+2) (.ref a) (.ref b) ((List.range (min xs.length ys.length)).all e&&xs.length ==ys.length)
variable {A:Around}{kvs:List (Key×V)}{vs:List (Key×Value)}
section
variable {X:Cx}{Y:KG}{s:Shared}{U:St}{H:Hp}
def vi {y x:V}{u v:Value}(ry:RelV y u)(rx:RelV x v)(fy:aN y=true)(fx:aN x=true):SeqAt.RcAt A s u v (cJ y x):=by
 cases y<;>first|cases fy|skip
 all_goals (cases x<;>first|cases fx|skip)
 all_goals (first|(obtain⟨t,rfl⟩:=ry)|cases ry)
 all_goals (first|(obtain⟨t',rfl⟩:=rx)|cases rx)
 .exact SeqAt.RcAt.none_none
 .exact SeqAt.RcAt.none_bool _
 .exact SeqAt.RcAt.none_int _ _
 .exact SeqAt.RcAt.none_str _ _
 .exact SeqAt.RcAt.bool_none _
 .exact SeqAt.RcAt.bool_bool _ _
 .exact SeqAt.RcAt.bool_int _ _ _
 .exact SeqAt.RcAt.bool_str _ _ _
 .exact SeqAt.RcAt.int_none _ _
 .exact SeqAt.RcAt.int_bool _ _ _
 .exact SeqAt.RcAt.int_int _ _ _ _
 .exact SeqAt.RcAt.int_str _ _ _ _
 .exact SeqAt.RcAt.str_none _ _
 .exact SeqAt.RcAt.str_bool _ _ _
 .exact SeqAt.RcAt.str_int _ _ _ _
 .exact SeqAt.RcAt.str_str _ _ _ _
def pU {y x:V}{u v:Value}(ry:RelV y u)(rx:RelV x v)(fy:aN y=true)(fx:aN x=true):SeqAt.RcNeAt A s u v (!cJ y x):=by
 cases y<;>first|cases fy|skip
 all_goals (cases x<;>first|cases fx|skip)
 all_goals (first|(obtain⟨t,rfl⟩:=ry)|cases ry)
 all_goals (first|(obtain⟨t',rfl⟩:=rx)|cases rx)
 .exact SeqAt.RcNeAt.none_none
 .exact SeqAt.RcNeAt.none_bool _
 .exact SeqAt.RcNeAt.none_int _ _
 .exact SeqAt.RcNeAt.none_str _ _
 .exact SeqAt.RcNeAt.bool_none _
 .exact SeqAt.RcNeAt.bool_bool _ _
 .exact SeqAt.RcNeAt.bool_int _ _ _
 .exact SeqAt.RcNeAt.bool_str _ _ _
 .exact SeqAt.RcNeAt.int_none _ _
 .exact SeqAt.RcNeAt.int_bool _ _ _
 .exact SeqAt.RcNeAt.int_int _ _ _ _
 .exact SeqAt.RcNeAt.int_str _ _ _ _
 .exact SeqAt.RcNeAt.str_none _ _
 .exact SeqAt.RcNeAt.str_bool _ _ _
 .exact SeqAt.RcNeAt.str_int _ _ _ _
 .exact SeqAt.RcNeAt.str_str _ _ _ _
def eqv_refl (I:Inv X Y U H s):∀ {n:Nat}{x y:V}{b:Bool},ff X.K H n x y b->x=y->b=true:=by
 intro n x y b h
 induction h with
 | @flat n x y fx fy=>
  rintro rfl;cases x<;>first|(exact absurd fx Bool.false_ne_true)|simp[cJ]
 |same a=>intro _;rfl
 | @ll n a b xs ys e ha hb hl h ih=>
  intro z;cases z;have:=I.j7 ha hb;subst this;rw[all_eq_true];intro j hj;have hj':j<xs.length:=mem_range.mp hj;exact ih j _ _ (le hj') (le hj') rfl
 | @tt n a b xs ys e ha hb h ih=>
  intro z;cases z;have:=I.gX ha hb;subst this;rw[beq_self_eq_true,Bool.and_true,Nat.min_self,all_eq_true];intro j hj;have hj':j<xs.length:=mem_range.mp hj;exact ih j _ _ (le hj') (le hj') rfl
def j9 (I:Inv X Y U H s):∀ {n:Nat}{x y:V}{b:Bool},ff X.K H n x y b->∀ {A:Around}{u v:Value},A.units+n<cLine->RelV x u->RelV y v->
  (SeqAt.EqAt A s u v b)/\(x=y\/SeqAt.RcAt A s u v b/\SeqAt.RcNeAt A s u v (!b)):=by
 intro n x y b h
 induction h with
 |flat fx fy=>intro A u v _ rx ry;exact⟨qQ rx ry fx fy,.inr ⟨vi rx ry fx fy,pU rx ry fx fy⟩⟩
 |same a=>intro A u v _ rx ry;cases rx;cases ry;exact⟨SeqAt.EqAt.same _,.inl rfl⟩
 | @ll n a b xs ys e ha hb hl h ih=>
  intro A u v hu rx ry;have hall:=ff.ll ha hb hl h;cases rx;cases ry
  by_cases hab:a=b
  .subst hab;have z:=eqv_refl I hall rfl;rw[z];exact⟨SeqAt.EqAt.same _,.inl rfl⟩
  obtain⟨ia,ra,pa,_⟩:=I.list ha;obtain⟨ib,rb,pb,_⟩:=I.list hb;have e1:ia.toArray.size=xs.length:=by rw[ge,ra.length]
  have e2:ib.toArray.size=ys.length:=by rw[ge,rb.length]
  have he:∀ j (h1:j<ia.toArray.size) (h2:j<ib.toArray.size),SeqAt.EqAt A.in1 s ia.toArray[j] ib.toArray[j] (e j):=λj h1 h2=>by
   obtain⟨x1,f1,r1⟩:=eo ra h1;obtain⟨y1,f2,r2⟩:=eo rb h2;exact(ih j x1 y1 f1 f2 (by show A.units+1+(n+1)<cLine;omega) r1 r2).1
  have rc:=SeqAt.RcAt.lists (A:=A) pa.isList pb.isList (by rw[e1,e2,hl]) nofun he;have rn:=SeqAt.RcNeAt.lists (A:=A) pa.isList pb.isList (by rw[e1,e2,hl]) nofun he;rw[e1]at rc rn;exact⟨SeqAt.EqAt.of_refs hab rc,.inr ⟨rc,rn⟩⟩
 | @tt n a b xs ys e ha hb h ih=>
  intro A u v hu rx ry;have hall:=ff.tt ha hb h;cases rx;cases ry
  by_cases hab:a=b
  .subst hab;have z:=eqv_refl I hall rfl;rw[z];exact⟨SeqAt.EqAt.same _,.inl rfl⟩
  obtain⟨ia,ra,pa,_⟩:=I.tuple ha;obtain⟨ib,rb,pb,_⟩:=I.tuple hb;have e1:ia.toArray.size=xs.length:=by rw[ge,ra.length]
  have e2:ib.toArray.size=ys.length:=by rw[ge,rb.length]
  have he:∀ j (h1:j<ia.toArray.size) (h2:j<ib.toArray.size),SeqAt.EqAt A.in1 s ia.toArray[j] ib.toArray[j] (e j):=λj h1 h2=>by
   obtain⟨x1,f1,r1⟩:=eo ra h1;obtain⟨y1,f2,r2⟩:=eo rb h2;exact(ih j x1 y1 f1 f2 (by show A.units+1+(n+1)<cLine;omega) r1 r2).1
  have rc:=SeqAt.RcAt.tuples (A:=A) (show s.heap.IsTuple a ia.toArray from pa) (show s.heap.IsTuple b ib.toArray from pb) nofun he;have rn:=SeqAt.RcNeAt.tuples (A:=A) (show s.heap.IsTuple a ia.toArray from pa) (show s.heap.IsTuple b ib.toArray from pb) nofun he;rw[e1,e2]at rc rn;exact⟨SeqAt.EqAt.of_refs hab rc,.inr ⟨rc,rn⟩⟩
abbrev IB (K:W.Frag)(H:Hp)(a b:Addr):Prop:=a≠b/\∃ xs ys,aY K H a xs/\aY K H b ys/\xs.length=ys.length/\∀ (j:Nat) x y,xs[j]? =some x->ys[j]? =some y->(∃ n,n<=100/\ff K H n x y true)\/∃ p q kvs,x=.ref p/\y=.ref q/\Rd H p (.dK kvs)/\Rd H q (.dK kvs)/\∀ kv ∈ kvs,aN kv.2=true
def E9 (r:KV kvs vs)(hn:(vs.map (·.1)).Nodup):∀ p ∈ kvs,∃ y,valueAt vs p.1=some y/\RelV p.2 y:=by
 unfold KV at r
 induction r with
 |nil=>intro p hp;cases hp
 | @cons p q ps qs h t ih=>
  rw[map_cons,nodup_cons]at hn;intro p' hp;rcases li.mp hp with rfl|hp
  .refine⟨q.2,?_,h.2⟩;unfold valueAt;rw[List.find?_cons_of_pos (by simpa using h.1.symm)]
   rfl
  .obtain⟨y,e,ry⟩:=ih hn.2 p' hp;refine⟨y,?_,ry⟩;unfold valueAt at e⊢;rw[List.find?_cons_of_neg]
   .exact e
   .intro z;have z:q.1=p'.1:=by simpa using z
    obtain⟨kv,hkv,-⟩:=nb.mp e;have h1:=List.mem_of_find?_eq_some hkv;have h2:kv.1=p'.1:=by simpa using List.find?_some hkv
    exact hn.1 (List.mem_map.mpr ⟨kv,h1,h2.trans z.symm⟩)
def AI {kb:List (Key×Value)}(r:KV kvs vs)(h:∀ p ∈ kvs,aN p.2=true/\∃ y,valueAt kb p.1=some y/\RelV p.2 y):W.KeqHits A s kb vs true:=by
 unfold KV at r
 induction r with
 |nil=>exact .nil
 | @cons p q ps qs g t ih=>
  obtain⟨f,y,e,ry⟩:=h p (lf ..);have z:=qQ (A:=A) (s:=s) g.2 ry f f;rw[show cJ p.2 p.2=true by cases hp:p.2<;>first|(rw[hp]at f;exact absurd f Bool.false_ne_true)|simp[cJ]]at z;exact .hit (by rw[<-g.1];exact e) z (ih λp hp=>h p (dl _ hp))
def C0 (I:Inv X Y U H s){a b:Addr}(h:IB X.K H a b)(hu:X.A.units+200<cLine){E Q:KD}(q:Q (.bool true) s):wpAny (model X.prog X.w) X.A (richCompare .Eq (.ref a) (.ref b)) Q E s:=by
 obtain⟨hab,xs,ys,ha,hb,hl,h⟩:=h;obtain⟨ia,ra,pa,_⟩:=I.list ha;obtain⟨ib,rb,pb,_⟩:=I.list hb;have e1:ia.toArray.size=xs.length:=by rw[ge,ra.length]
 have e2:ib.toArray.size=ys.length:=by rw[ge,rb.length]
 refine xx pa.isList pb.isList (by rw[e1,e2,hl]) nofun (λj h1 h2=>?_) q;obtain⟨x1,f1,r1⟩:=eo ra h1;obtain⟨y1,f2,r2⟩:=eo rb h2;rcases h j x1 y1 f1 f2 with⟨n,hn,e⟩|⟨p,p',kvs,rfl,rfl,d1,d2,fl⟩
 .exact λE Q hq=>(j9 I e (A:=X.A.in1) (by show X.A.units+1+n<cLine;omega) r1 r2).1 X.prog X.w E Q hq
 .generalize ia.toArray[j]=u at r1;generalize ib.toArray[j]=v at r2;cases r1;cases r2;intro E Q hq
  by_cases hp:p=p'
  .subst hp;exact SeqAt.EqAt.same _ X.prog X.w E Q hq
  obtain⟨z1,g1,vs,k1,dd1⟩:=eP I.hok d1;obtain⟨z2,g2,vs',k2,dd2⟩:=eP I.hok d2;obtain⟨_,_,_,_,_,_,_,_,nd⟩:=id dd2;have hlen:vs.length=vs'.length:=by
   have t1:=congrArg List.length (jh k1);have t2:=congrArg List.length (jh k2);rw[ce,ce]at t1 t2
   omega
  unfold eqBool;refine bd ?_;refine wpAny_ite_split (λhab=>absurd (by have:=eq_of_beq hab;injection this) hp) (λ_=>?_);refine ad (W.keq_eq g1 g2 dd1 dd2 (by show X.A.units+1<cLine;omega) (λ_=>AI k1 λkv hk=>⟨fl kv hk,E9 k2 nd kv hk⟩) ?_);rw[hlen,beq_self_eq_true,Bool.true_and];exact bi hq
@[irreducible] noncomputable def eE (K:W.Frag) (neg:Bool):R2:=λx y H Q=>(neg=false/\∃ a c,x=.ref a/\y=.ref c/\IB K H a c/\Q (.bl true) H)\/∃ n b,ff K H n x y b/\n<=100/\(aN x=true\/x≠y\/(neg=false/\∃ a,x=.ref a/\yt K H a)\/(neg=true/\∃ a,x=.ref a/\vZ K H a))/\Q (.bl (if neg then !b else b)) H
def DK (hu:X.A.units+200<cLine):cy X (compareOp .Eq) (eE X.K false):=by
 intro Y s U H x y v u Q I rx ry h;unfold eE at h;rcases h with⟨_,a,c,rfl,rfl,e,q⟩|⟨n,b,e,hn,hx,q⟩
 .cases rx;cases ry;exact C0 I e hu ⟨.bl true,H,I,rfl,q⟩
 rcases(j9 I e (A:=X.A) nofun rx ry).2 with z|⟨z,_⟩
 .subst z;rcases hx with hx|hx
  .have z:=eqv_refl I e rfl;have r:=vi (s:=s) (A:=X.A) rx ry hx hx;have z2:=eqv_refl I (ff.flat (K:=X.K) (H:=H) (n:=0) hx hx) rfl;rw[z2]at r;rw[z]at q;exact PySem.EqBoolInt.of_rc r ⟨.bl true,H,I,rfl,q⟩
  rcases hx with hx|⟨_,a,rfl,hs⟩|⟨hx,_⟩
  .exact absurd rfl hx
  .have z:=eqv_refl I e rfl;rw[z]at q;cases rx;cases ry;exact PySem.EqBoolInt.of_rc (zJ (A:=X.A) I hs nofun) ⟨.bl true,H,I,rfl,q⟩
  .cases hx
 .exact PySem.EqBoolInt.of_rc z ⟨.bl b,H,I,rfl,q⟩
def CN (hu:X.A.units+200<cLine):cy X (compareOp .NotEq) (eE X.K true):=by
 intro Y s U H x y v u Q I rx ry h;unfold eE at h;rcases h with⟨hz,_⟩|⟨n,b,e,hn,hx,q⟩
 .cases hz
 rcases(j9 I e (A:=X.A) nofun rx ry).2 with z|⟨_,z⟩
 .subst z;rcases hx with hx|hx
  .have z:=eqv_refl I e rfl;have r:=pU (s:=s) (A:=X.A) rx ry hx hx;have z2:=eqv_refl I (ff.flat (K:=X.K) (H:=H) (n:=0) hx hx) rfl;rw[z2]at r;rw[z]at q;exact PySem.EqBoolInt.of_rcne r ⟨.bl false,H,I,rfl,q⟩
  rcases hx with hx|⟨hx,_⟩|⟨_,a,rfl,hs⟩
  .exact absurd rfl hx
  .cases hx
  .have z:=eqv_refl I e rfl;rw[z]at q;cases rx;cases ry;exact PySem.EqBoolInt.of_rcne (yJ (A:=X.A) I hs nofun) ⟨.bl false,H,I,rfl,q⟩
 .exact PySem.EqBoolInt.of_rcne z ⟨.bl (!b),H,I,rfl,q⟩
end
@[irreducible] noncomputable def Aw (K:W.Frag) (a b:Addr) (H:Hp) (Q:VK):Prop:=(∃ xs ys,H a=some (.lst xs)/\H b=some (.lst ys)/\xs.length+ys.length<=100000/\∀ p,H p=none->Q (.ref p) (upd H p (.lst (xs++ys))))\/False
@[irreducible] noncomputable def zS (K:W.Frag) (a:Addr) (k:Int) (H:Hp) (Q:VK):Prop:=(∃ xs,H a=some (.lst xs)/\ -1000<=k/\k<=1000/\xs.length<=1000/\∀ p,H p=none->Q (.ref p) (upd H p (.lst (re k.toNat xs).flatten)))\/False
abbrev Ds (K:W.Frag):R2:=λx y H Q=>match x,y with
 | .int i,.int j=>Q (.int (i+j)) H
 | .str a,.str b=>a.length+b.length<=100000/\Q (.str (a++b)) H
 | .ref a,.ref b=>Aw K a b H Q
 |_,_=>False
abbrev Es:R2:=λx y H Q=>match x,y with
 | .int i,.int j=>Q (.int (i-j)) H
 |_,_=>False
abbrev DB (K:W.Frag):R2:=λx y H Q=>match x,y with
 | .int i,.int j=>pT i j/\Q (.int (i*j)) H
 | .ref a,.int k=>zS K a k H Q
 |_,_=>False
abbrev CA:R2:=λx y H Q=>match x,y with
 | .int i,.int j=>(0<j/\j<1073741824)/\Q (.int (i / j)) H
 |_,_=>False
abbrev CM:R2:=λx y H Q=>match x,y with
 | .int i,.int j=>0<j/\Q (.int (i % j)) H
 |_,_=>False
abbrev Ei:R2:=λx y H Q=>match x,y with
 | .int i,.int j=>Am i j/\Q (.int (i ^ j.toNat)) H
 |_,_=>False
abbrev Dr (K:W.Frag)(op:Operator):R2:=match op with
 | .Add=>Ds K
 | .Sub=>Es
 | .Mult=>DB K
 | .FloorDiv=>CA
 | .Mod=>CM
 | .Pow=>Ei
 |_=>λ_ _ _ _=>False
section
variable {X:Cx}
def lO {n:Nat}(h:n<=1000000):n<=bn:=by rw[sizeLine_eq];omega
def CD (op:Operator):cy X (binaryOp op) (Dr X.K op):=by
 intro Y s U H x y v u Q I rx ry h;cases op with
 |Add=>
  have h':Ds X.K x y H Q:=h;unfold Ds at h'
  split at h'
  .exact CF Y s U H _ _ v u Q I rx ry ⟨_,_,rfl,rfl,h'⟩
  .exact rA Y s U H _ _ v u Q I rx ry ⟨_,_,rfl,rfl,lO nofun,h'.2⟩
  .unfold Aw at h';rcases h' with⟨xs,ys,ha,hb,hz,q⟩|h'
   .exact Dd Y s U H _ _ v u Q I rx ry ⟨_,_,xs,ys,rfl,rfl,ha,hb,lO nofun,q⟩
   .exact h'.elim
  .exact h'.elim
 |Sub=>
  have h':Es x y H Q:=h;unfold Es at h'
  split at h'
  .exact Eb Y s U H _ _ v u Q I rx ry ⟨_,_,rfl,rfl,h'⟩
  .exact h'.elim
 |Mult=>
  have h':DB X.K x y H Q:=h;unfold DB at h'
  split at h'
  .exact Ek Y s U H _ _ v u Q I rx ry ⟨_,_,rfl,rfl,h'.1,h'.2⟩
  .rename_i k;unfold zS at h';rcases h' with⟨xs,ha,h1,h2,hz,q⟩|h'
   .refine Cm Y s U H _ _ v u Q I rx ry ⟨_,k,xs,rfl,rfl,ha,by omega,by omega,lO ?_,q⟩;have:xs.length*k.toNat<=1000*1000:=Nat.mul_le_mul hz nofun
    omega
   .exact h'.elim
  .exact h'.elim
 |FloorDiv=>
  have h':CA x y H Q:=h;unfold CA at h'
  split at h'
  .exact zQ Y s U H _ _ v u Q I rx ry ⟨_,_,rfl,rfl,h'.1,h'.2⟩
  .exact h'.elim
 |Mod=>
  have h':CM x y H Q:=h;unfold CM at h'
  split at h'
  .exact EA Y s U H _ _ v u Q I rx ry ⟨_,_,rfl,rfl,h'.1,h'.2⟩
  .exact h'.elim
 |Pow=>
  have h':Ei x y H Q:=h;unfold Ei at h'
  split at h'
  .exact Ed Y s U H _ _ v u Q I rx ry ⟨_,_,rfl,rfl,h'.1,h'.2⟩
  .exact h'.elim
 |_=>exact(show False from h).elim
abbrev uq (f:Int->Int->Bool):R2:=λx y H Q=>match x,y with
 | .int i,.int j=>Q (.bl (f i j)) H
 |_,_=>False
@[irreducible] noncomputable def GS (K:W.Frag) (neg:Bool):R2:=λx y H Q=>match y with
 | .ref p=>(∃ xs,(aY K H p xs\/aZ K H p xs)/\aN x=true/\xs.all aN=true/\Q (.bl (if neg then !E0 x xs else E0 x xs)) H)\/False\/False
 | .str j=>False
 |_=>False
@[irreducible] noncomputable def yG (neg:Bool):R2:=λx y H Q=>match y with
 | .non=>Q (.bl (if neg then !decide (x=.non) else decide (x=.non))) H
 | .bl b=>False
 | .ref b=>False
 |_=>False
abbrev jm (K:W.Frag)(op:CmpOp):R2:=match op with
 | .Eq=>eE K false
 | .NotEq=>eE K true
 | .Lt=>uq λi j=>decide (i<j)
 | .LtE=>uq λi j=>decide (i<=j)
 | .Gt=>uq λi j=>decide (j<i)
 | .GtE=>uq λi j=>decide (j<=i)
 | .In=>GS K false
 | .NotIn=>λ_ _ _ _=>False
 | .Is=>yG false
 | .IsNot=>yG true
def nq {f:Int->Int->Bool}{op:CmpOp}(ho:cy X (compareOp op) (yZ λi j=>.bl (f i j))):cy X (compareOp op) (uq f):=by
 intro Y s U H x y v u Q I rx ry h;unfold uq at h
 split at h
 .exact ho Y s U H _ _ v u Q I rx ry ⟨_,_,rfl,rfl,h⟩
 .exact h.elim
def Ew (hu:X.A.units+200<cLine)(op:CmpOp):cy X (compareOp op) (jm X.K op):=by
 cases op with
 |Eq=>exact DK hu
 |NotEq=>exact CN hu
 |Lt=>exact nq Fp
 |LtE=>exact nq Gp
 |Gt=>exact nq FT
 |GtE=>exact nq GX
 |In=>
  intro Y s U H x y v u Q I rx ry h;have h':GS X.K false x y H Q:=h;unfold GS at h'
  split at h'
  .rcases h' with⟨xs,hx,f1,f2,q⟩|g|z
   .exact uX Y s U H _ _ v u Q I rx ry ⟨_,xs,rfl,hx,f1,f2,q⟩
   .exact g.elim
   .exact z.elim
  .exact h'.elim
  .exact h'.elim
 |NotIn=>exact λ_ _ _ _ _ _ _ _ _ _ _ _ h=>(show False from h).elim
 |Is=>
  intro Y s U H x y v u Q I rx ry h;have h':yG false x y H Q:=h;unfold yG at h'
  split at h'
  .exact Eh Y s U H _ _ v u Q I rx ry ⟨rfl,h'⟩
  .exact h'.elim
  .exact h'.elim
  .exact h'.elim
 |IsNot=>
  intro Y s U H x y v u Q I rx ry h;have h':yG true x y H Q:=h;unfold yG at h'
  split at h'
  .exact zU Y s U H _ _ v u Q I rx ry ⟨rfl,h'⟩
  .exact h'.elim
  .exact h'.elim
  .exact h'.elim
@[irreducible] noncomputable def oE (K:W.Frag):R2:=λx y H Q=>match x with
 | .ref p=>(∃ xs i v,y=.int i/\(aY K H p xs\/aZ K H p xs)/\kx xs i=some v/\Q v H)\/∃ v,Cu H p y (some v)/\Q v H
 | .str z=>False
 |_=>False
def qV (hu:X.A.units+200<cLine):FW X (oE X.K):=by
 intro value slice Y s U H x y v u Q I rx ry h hs;unfold oE at h
 split at h
 .rcases h with⟨xs,i,w,rfl,hx,ha,q⟩|⟨w,g,q⟩
  .rcases hx with hx|hx
   .exact AK value slice Y s U H _ _ v u Q I rx ry ⟨_,xs,i,w,rfl,rfl,hx,ha,q⟩ hs
   .exact Dk value slice Y s U H _ _ v u Q I rx ry ⟨_,xs,i,w,rfl,rfl,hx,ha,q⟩ hs
  .cases rx;exact tail_any (nU I g) PySem.F.slot_dict_getitem.lookup (t5 nofun I g ry λw' s3 I3 rw'=>⟨w,H,I3,rw',q⟩) hs
 .exact h.elim
 .exact h.elim
@[irreducible] noncomputable def eD:tZ:=λo i v H Q=>match o with
 | .ref p=>(∃ xs k j,i=.int k/\H p=some (.lst xs)/\vH xs.length k=some j/\Q (upd H p (.lst (xs.set j v))))\/∃ H4,FO H p i v H4/\Q H4
 |_=>False
def rR (hu:X.A.units+200<cLine):Bj X eD:=by
 intro Y s U H o i v ov iv u Q I ro ri rv h;unfold eD at h
 split at h
 .rcases h with⟨xs,k,j,rfl,hp,hj,q⟩|⟨H4,g,q⟩
  .exact set_list Y s U H _ _ v ov iv u Q I ro ri rv ⟨_,xs,k,j,rfl,rfl,hp,hj,q⟩
  .cases ro;exact ud nofun I g ri rv λs4 I4=>⟨H4,I4,q⟩
 .exact h.elim
@[irreducible] noncomputable def EU (K:W.Frag):V->Option Int->Option Int->Hp->VK->Prop:=λx lo hi H Q=>match x with
 | .ref a=>(∃ xs,aY K H a xs/\∀ p,H p=none->Q (.ref p) (upd H p (.lst (nE xs lo hi))))\/False
 | .str z=>False
 |_=>False
def EL:HE X (EU X.K):=by
 intro Y s U H x v vl vu lo hi sl Q I rx hs pl pu h;unfold EU at h
 split at h
 .rcases h with⟨xs,hx,q⟩|h
  .exact Af Y s U H _ v vl vu lo hi sl Q I rx hs pl pu ⟨_,xs,rfl,hx,q⟩
  .exact h.elim
 .exact h.elim
 .exact h.elim
end
end L2
namespace L3
open PySem L2
set_option genSizeOf false
inductive Bf where
 |len|list|tuple|int|str|min|max|abs|all|any|dict|sum
 deriving DecidableEq
inductive Lm where
 |append|extend|insert|pop|clear|reverse|count
 deriving DecidableEq
inductive Sm where
 |join|split|starts
 deriving DecidableEq
inductive Cl where
 |own (c:Nat)|ty (n:String)
mutual
inductive Ex where
 |v (i:Nat)|int (i:Int)|bl (b:Bool)|non|str (x:Str)|gl (x:Str)
 |bin (op:Operator) (a b:Ex)|neg (a:Ex)|not (a:Ex)|and (a b:Ex)|or (a b:Ex)
 |cmp (op:CmpOp) (a b:Ex)|cmp2 (o1 o2:CmpOp) (a b c:Ex)|cmp3 (o1 o2 o3:CmpOp) (a b c d:Ex)
 |ife (c:Tx) (a b:Ex)|tup (es:ft)|lst (es:ft)|ix (a i:Ex)|sl (a:Ex) (lo hi:HP)
 |fld (a:Ex) (f:Str)|call (f:Nat) (es:ft)|meth (a:Ex) (m:Str) (es:ft)|lm (m:Lm) (a:Ex) (es:ft)|make (c:Nat) (es:ft)|bini (es:ft)|cini (c:Nat) (es:ft)
 |bf (b:Bf) (es:ft)|sm (m:Sm) (a b:Ex)|isi (a:Ex) (c:Cl)|lc (elt:Ex) (sel:List Nat) (it:BI)|lci (elt:Ex) (c:Tx) (sel:List Nat) (it:BI)|lct (elt:Ex) (n:Nat) (sel:List Nat) (it:BI)|lcu (elt:Ex) (c:Tx) (n:Nat) (sel:List Nat) (it:BI)|dnew|up (a:Ex)|dzip (a b:Ex)|isiT (a:Ex) (cs:List Nat)|vals (tp:Bool) (a:Ex)|mk0 (c:Nat)|disp (ks:List Str) (es:ft)|lix (a b:Ex)|rev (a b:Ex)|dget (a k d:Ex)
inductive Tx where
 |not (a:Tx)|and (a b:Tx)|or (a b:Tx)|cmp (op:CmpOp) (a b:Ex)|cmp2 (o1 o2:CmpOp) (a b c:Ex)|val (e:Ex)
inductive ft where
 |nil|cons (e:Ex) (es:ft)
inductive HP where
 |no|yes (e:Ex)
inductive BI where
 |rng1 (a:Ex)|rng2 (a b:Ex)|rng3 (a b c:Ex)|enm (a:Ex)|enf (a:Ex)|seq (a:Ex)|zip (a b:Ex)|zip3 (a b c:Ex)
end
inductive HC where
 |nm (i:Nat)|tp (is:List Nat)|nt (i:Nat) (is:List Nat)
mutual
inductive Sx where
 |asg (i:Nat) (e:Ex)|asgT (is:List Nat) (e:Ex)|par (is:List Nat) (es:ft)|sub (o i v:Ex)|fld (o:Ex) (f:Str) (v:Ex)
 |aug (i:Nat) (op:Operator) (e:Ex)|augS (o i:Ex) (op:Operator) (e:Ex)
 |ret (e:Ex)|retN|pass|brk|cont|expr (e:Ex)
 |ife (c:Tx) (a b:kP)|whl (c:Tx) (b:kP)|for (t:HC) (it:BI) (b:kP)|rais (e:Ex)|tryx (b:kP) (hs:yF)
inductive kP where
 |nil|cons (s:Sx) (r:kP)
inductive yF where
 |nil|cons (c:Nat) (i:Nat) (b:kP) (hs:yF)
end
structure aq where
 ps:List Str
 N:List Str
 dfl:List V
 body:kP
/-- what of the text never changes. gfn,gcl:the global names of defs and classes,by number;gbl:built-in names that are not shadowed;gbi:classes of exceptions whose __init__ is the built-in one;na:class and name that no class of it has;
  me:class,name,def;ini:class,its __init__;oc,xc:plain classes,classes of exceptions;sub,subT:isinstance -/
structure Tab where
 fns:List aq
 gfn:List (Str×Nat)
 gcl:List (Str×Nat)
 gbl:List Str
 gbi:List Str
 na:List (Nat×Str)
 me:List ((Nat×Str)×Nat)
 ini:List (Nat×Nat)
 ini0:List Nat
 inip:List Nat
 oc:List Nat
 xc:List Nat
 sub:List ((Nat×Nat)×Bool)
 subT:List ((Nat×String)×Bool)
 subB:List ((String×String)×Bool)
 subO:List ((String×Nat)×Bool)
 cin:List (Nat×Nat):=[]
structure Rt where
 K:W.Frag
 fad:Nat->Addr
 cad:Nat->Addr
 gl:Str->Option V
structure Gx where
 T:Tab
 R:Rt
 Ψ:Nat->Sp
 cm:Bool
@[irreducible] noncomputable def gF (c:Bool) (A B:Prop):Prop:=match c with
 |true=>A
 |false=>B
def cx (c:Bool)(A B:Prop):gF c A B=(if c=true then A else B):=by unfold gF;cases c<;>rfl
abbrev EC (K:W.Frag)(x:V)(H:Hp)(Q:Bool->Hp->Prop):Prop:=match x with
 | .bl k=>Q k H
 |y=>∃ k,Ad K y H k/\Q k H
abbrev tyName:V->Hp->Option String
 | .non,_=>some "NoneType"
 | .bl _,_=>some "bool"
 | .int _,_=>some "int"
 | .str _,_=>some "str"
 | .ref a,H=>match H a with
  |some (.lst _)=>some "list"
  |some (.tup _)=>some "tuple"
  |some (.dK _)=>some "dict"
  |some (.iY _ (.dK _))=>some "dict"
  |_=>none
 |_,_=>none
@[irreducible] noncomputable def kG (G:Gx) (b:Bf) (vs:List V) (H:Hp) (Q:VK):Prop:=match b with
 | .len=>∃ x n,vs=[x]/\Gj G.R.K x H n/\Q (.int n) H
 | .list=>(∃ p ys,vs=[.ref p]/\(aY G.R.K H p ys\/aZ G.R.K H p ys)/\∀ l,H l=none->Q (.ref l) (upd H l (.lst ys)))\/(G.cm=true/\∃ p kvs,vs=[.ref p]/\Rd H p (.dK kvs)/\∀ l,H l=none->Q (.ref l) (upd H l (.lst (kvs.map (λkv=>kV kv.1)))))
 | .tuple=>∃ p ys,vs=[.ref p]/\((aY G.R.K H p ys/\∀ l,H l=none->Q (.ref l) (upd H l (.tup ys)))\/(aZ G.R.K H p ys/\Q (.ref p) H))
 | .int=>(∃ i,vs=[.int i]/\Q (.int i) H)\/∃ k,vs=[.bl k]/\Q (.int (if k then 1 else 0)) H
 | .str=>(∃ i,vs=[.int i]/\i.natAbs.log2<1920/\Q (.str (toString i)) H)\/∃ z,vs=[.str z]/\Q (.str z) H
 | .min=>G.cm=true/\((∃ i j,vs=[.int i,.int j]/\Q (.int (if j<i then j else i)) H)\/False)
 | .max=>False
 | .abs=>False
 | .all=>G.cm=true/\∃ p,∃ bs:List Bool,vs=[.ref p]/\aY G.R.K H p (bs.map V.bl)/\Q (.bl (bs.all id)) H
 | .any=>False
 | .dict=>∃ p kvs,vs=[.ref p]/\H p=some (.dK kvs)/\∀ l,H l=none->Q (.ref l) (upd H l (.dK kvs))
 | .sum=>False
@[irreducible] noncomputable def Fs (m:Lm) (p:Addr) (xs:List V) (vs:List V) (H:Hp) (Q:VK):Prop:=match m with
 | .append=>∃ y,vs=[y]/\xs.length<=10000/\Q .non (upd H p (.lst (xs++[y])))
 | .extend=>∃ b zs,vs=[.ref b]/\H b=some (.lst zs)/\xs.length+zs.length<=10000/\Q .non (upd H p (.lst (xs++zs)))
 | .insert=>False
 | .pop=>False
 | .clear=>False
 | .reverse=>False
 | .count=>False
abbrev dflt (G:Gx)(f n:Nat):List V:=match G.T.fns[f]? with
 |some d=>d.dfl.drop (n+d.dfl.length-d.ps.length)
 |none=>[]
abbrev ft.len:ft->Nat
 | .nil=>0
 | .cons _ es=>es.len+1
abbrev v7 (G:Gx)(H:Hp)(a:Addr)(i:Nat):Prop:=(G.T.oc.contains i=true/\∃ dx fs,H a=some (.ins (G.R.cad i) dx fs))\/(G.T.xc.contains i=true/\∃ dx fs fr,H a=some (.exc (G.R.cad i) dx fs fr))
@[irreducible] noncomputable def kS (G:Gx) (c:Cl) (x:V) (H:Hp) (Q:VK):Prop:=match c with
 | .ty n=>(∃ t b,tyName x H=some t/\G.T.subB.lookup (t,n)=some b/\Q (.bl b) H)\/∃ a i b,x=.ref a/\v7 G H a i/\G.T.subT.lookup (i,n)=some b/\Q (.bl b) H
 | .own j=>(∃ t b,tyName x H=some t/\G.T.subO.lookup (t,j)=some b/\Q (.bl b) H)\/∃ a i b,x=.ref a/\v7 G H a i/\G.T.sub.lookup (i,j)=some b/\Q (.bl b) H
@[irreducible] noncomputable def qX (G:Gx) (f:Str) (x:V) (H:Hp) (Q:VK):Prop:=∃ a i fs v,x=.ref a/\((G.T.oc.contains i=true/\∃ dx,H a=some (.ins (G.R.cad i) dx fs))\/(G.T.xc.contains i=true/\∃ dx fr,H a=some (.exc (G.R.cad i) (some dx) fs fr)))/\
 G.T.na.contains (i,f)=true/\fs.lookup f=some v/\Q v H
@[irreducible] noncomputable def y9 (G:Gx) (f:Str) (x y:V) (H:Hp) (Q:Hp->Prop):Prop:=∃ a i,x=.ref a/\G.T.na.contains (i,f)=true/\
 ((∃ dx fs,G.T.oc.contains i=true/\H a=some (.ins (G.R.cad i) dx fs)/\fs.length<1000/\Q (upd H a (.ins (G.R.cad i) dx (cA f y fs))))\/
  (∃ d fs fr,G.T.xc.contains i=true/\H a=some (.exc (G.R.cad i) (some d) fs fr)/\fs.length<1000/\Q (upd H a (.exc (G.R.cad i) (some d) (cA f y fs) fr)))\/
  (∃ fr,G.T.xc.contains i=true/\H a=some (.exc (G.R.cad i) none [] fr)/\∀ d,H d=none->Q (upd (upd H d (.own a)) a (.exc (G.R.cad i) (some d) [(f,y)] fr))))
abbrev Hx (op:Operator)(x y:V)(H:Hp)(Q:VK):Prop:=match op,x,y with
 | .Add,.int i,.int j=>Q (.int (i+j)) H
 | .Sub,.int i,.int j=>Q (.int (i-j)) H
 |_,_,_=>False
@[irreducible] noncomputable def vD (K:W.Frag) (x y:V) (H:Hp) (Q:VK):Prop:=match x,y with
 | .ref p,.int i=>∃ xs v,aY K H p xs/\0<=i/\xs[i.toNat]? =some v/\Q v H
 |_,_=>False
abbrev uE (U:St):List Nat->List V->St
 |i::is,x::xs=>uE (U.set i (some x)) is xs
 |_,_=>U
@[irreducible] noncomputable def A9 (xs:List V) (H:Hp) (Q:VK):Prop:=xs.length<=10000/\∀ p,H p=none->Q (.ref p) (upd H p (.lst xs))
@[irreducible] noncomputable def nv (xs:List V) (H:Hp) (Q:VK):Prop:=xs.length<=10000/\∀ p,H p=none->Q (.ref p) (upd H p (.tup xs))
@[irreducible] noncomputable def Ab (l:Addr) (H:Hp) (R:It->Hp->Prop):Prop:=(∃ xs,H l=some (.lst xs))/\R (GN l) H
@[irreducible] noncomputable def qE (K:W.Frag) (p:Addr) (H:Hp) (R:It->Hp->Prop):Prop:=((∃ xs,aY K H p xs)/\R (EZ K p) H)\/((∃ xs,aZ K H p xs)/\R (F8 K p) H)\/False
@[irreducible] noncomputable def yV (K:W.Frag) (x y:V) (H:Hp) (R:It->Hp->Prop):Prop:=Fe K x y H R
@[irreducible] noncomputable def pj (tp:Bool) (x:V) (H:Hp) (Q:VK):Prop:=BC tp x H Q
@[irreducible] noncomputable def wo (C:Addr) (H:Hp) (Q:VK):Prop:=∀ x dx,H x=none->H dx=none->dx≠x->Q (.ref x) (upd (upd H dx (.own x)) x (.ins C dx []))
@[irreducible] noncomputable def GI (K:W.Frag) (x y:V) (H:Hp) (Q:VK):Prop:=JP K x y H Q
@[irreducible] noncomputable def yz (te:TE) (J:It) (σ₀:St) (H1:Hp) (Q:VK):Prop:=LC te J σ₀ H1 Q
def xP: @yz= @LC:=by
 funext te J U H Q
 unfold yz
 rfl
@[irreducible] noncomputable def IZ (tc:TT) (te:TE) (J:It) (σ₀:St) (H1:Hp) (Q:VK):Prop:=LCg (gA 0) tc te J σ₀ H1 Q
def De: @IZ= @LCg (gA 0):=by
 funext tc te J U H Q
 unfold IZ
 rfl
abbrev gl (is:List Nat):AB:=λvs U H Q=>vs.length=is.length/\Q (uE U is vs) H
@[irreducible] noncomputable def LCt (K:W.Frag) (n:Nat) (te:TE) (J:It) (σ₀:St) (H1:Hp) (Q:VK):Prop:=LCg (yM K n (gl (List.range n))) yes te J σ₀ H1 Q
def C7 {K:W.Frag}{n:Nat}:LCt K n=LCg (yM K n (gl (List.range n))) yes:=by
 funext te J U H Q
 unfold LCt
 rfl
abbrev EW:List Str->List V->List (Key×V)
 |k::ks,x::xs=>(.inr k,x)::EW ks xs
 |_,_=>[]
@[irreducible] noncomputable def rM (ks:List Str) (p:Addr) (xs:List V) (H:Hp) (Q:VK):Prop:=H p=some (.dK [])/\Q (.ref p) (upd H p (.dK (g5 [] (EW ks xs))))
mutual
noncomputable def wE (G:Gx):Ex->St->Hp->VK->XK->Prop
 | .v i,U,H,Q,_=>match U[i]? with
  |some (some x)=>Q x H
  |_=>False
 | .int i,_,H,Q,_=>Q (.int i) H
 | .bl b,_,H,Q,_=>Q (.bl b) H
 | .non,_,H,Q,_=>Q .non H
 | .str x,_,H,Q,_=>Q (.str x) H
 | .gl x,_,H,Q,_=>match G.R.gl x with
  |some v=>Q v H
  |none=>False
 | .bin op a b,U,H,Q,E=>wE G a U H (λx H1=>wE G b U H1 (λy H2=>Dr G.R.K op x y H2 Q) E) E
 | .neg a,U,H,Q,E=>wE G a U H (λx H1=>match x with| .int i=>Q (.int (-i)) H1|_=>False) E
 | .not a,U,H,Q,E=>wE G a U H (λx H1=>match x with| .bl c=>Q (.bl (!c)) H1|_=>False) E
 | .and a b,U,H,Q,E=>wE G a U H (λx H1=>match x with| .bl c=>gF c (wE G b U H1 Q E) (Q (.bl false) H1)|_=>False) E
 | .or a b,U,H,Q,E=>wE G a U H (λx H1=>match x with| .bl c=>gF c (Q (.bl true) H1) (wE G b U H1 Q E)|_=>False) E
 | .cmp op a b,U,H,Q,E=>wE G a U H (λx H1=>wE G b U H1 (λy H2=>jm G.R.K op x y H2 Q) E) E
 | .cmp2 o1 o2 a b c,U,H,Q,E=>wE G a U H (λx H1=>wE G b U H1 (λy H2=>jm G.R.K o1 x y H2 λz H3=>match z with| .bl k=>gF k (wE G c U H3 (λw H4=>jm G.R.K o2 y w H4 Q) E) (Q (.bl false) H3)|_=>False) E) E
 | .cmp3 o1 o2 o3 a b c d,U,H,Q,E=>wE G a U H (λx H1=>wE G b U H1 (λy H2=>jm G.R.K o1 x y H2 λz H3=>match z with| .bl k=>gF k (wE G c U H3 (λw H4=>jm G.R.K o2 y w H4 λz' H5=>match z' with| .bl k'=>gF k' (wE G d U H5 (λw2 H6=>jm G.R.K o3 w w2 H6 Q) E) (Q (.bl false) H5)|_=>False) E) (Q (.bl false) H3)|_=>False) E) E
 | .ife c a b,U,H,Q,E=>wT G c U H (λk H1=>gF k (wE G a U H1 Q E) (wE G b U H1 Q E)) E
 | .tup es,U,H,Q,E=>wEs G es U H (λxs H1=>nv xs H1 Q) E
 | .lst es,U,H,Q,E=>wEs G es U H (λxs H1=>A9 xs H1 Q) E
 | .ix a i,U,H,Q,E=>wE G a U H (λx H1=>wE G i U H1 (λy H2=>oE G.R.K x y H2 Q) E) E
 | .sl a lo hi,U,H,Q,E=>wE G a U H (λx H1=>wO G lo U H1 (λl H2=>wO G hi U H2 (λu H3=>EU G.R.K x l u H3 Q) E) E) E
 | .fld a f,U,H,Q,E=>wE G a U H (λx H1=>qX G f x H1 Q) E
 | .call f es,U,H,Q,E=>G.cm=true/\wEs G es U H (λvs H1=>G.Ψ f (vs++dflt G f es.len) H1 Q E) E
 | .meth a m es,U,H,Q,E=>G.cm=true/\wE G a U H (λx H1=>∃ p i dx fs f,x=.ref p/\H1 p=some (.ins (G.R.cad i) dx fs)/\fs.lookup m=none/\G.T.me.lookup (i,m)=some f/\
   wEs G es U H1 (λvs H2=>G.Ψ f (x::(vs++dflt G f (es.len+1))) H2 Q E) E) E
 | .lm m a es,U,H,Q,E=>wE G a U H (λx H1=>∃ p xs0,x=.ref p/\H1 p=some (.lst xs0)/\wEs G es U H1 (λvs H2=>∃ xs,H2 p=some (.lst xs)/\Fs m p xs vs H2 Q) E) E
 | .make c es,U,H,Q,E=>G.cm=true/\match G.T.ini.lookup c with
  |none=>G.T.ini0.contains c=true/\wEs G es U H (λvs H1=>vs.length=1/\∀ x,H1 x=none->Q (.ref x) (upd H1 x (.exc (G.R.cad c) none [] true))) E
  |some f=>if G.T.xc.contains c=true then wEs G es U H (λvs H1=>vs.length<=1000/\∀ x,H1 x=none->G.Ψ f (.ref x::(vs++dflt G f (es.len+1))) (upd H1 x (.exc (G.R.cad c) none [] true)) (λv H2=>v=.non/\Q (.ref x) H2) E) E
   else wEs G es U H (λvs H1=>∀ x dx,H1 x=none->H1 dx=none->dx≠x->G.Ψ f (.ref x::(vs++dflt G f (es.len+1))) (upd (upd H1 dx (.own x)) x (.ins (G.R.cad c) dx [])) (λv H2=>v=.non/\Q (.ref x) H2) E) E
 | .bini es,U,H,Q,E=>wEs G es U H (λvs H1=>∃ a i dx fs fr v,vs=[.ref a,v]/\H1 a=some (.exc (G.R.cad i) dx fs fr)/\G.T.xc.contains i=true/\Q .non H1) E
 | .cini c es,U,H,Q,E=>False
 | .bf b es,U,H,Q,E=>wEs G es U H (λvs H1=>kG G b vs H1 Q) E
 | .isi a c,U,H,Q,E=>wE G a U H (λx H1=>kS G c x H1 Q) E
 | .lc elt sel it,U,H,Q,E=>G.cm=true/\wI G it U H (λJ H1=>yz (λσ' H' Q'=>wE G elt σ' H' Q' (λ_ _=>False)) J (none::ja U sel) H1 Q) E
 | .lci elt c sel it,U,H,Q,E=>False
 | .lct elt n sel it,U,H,Q,E=>False
 | .lcu elt c n sel it,U,H,Q,E=>False
 | .dnew,_,H,Q,_=>False
 | .sm m a b,U,H,Q,E=>False
 | .up a,U,H,Q,E=>False
 | .isiT a cs,U,H,Q,E=>False
 | .mk0 c,_,H,Q,_=>wo (G.R.cad c) H Q
 | .disp ks es,U,H,Q,E=>∀ p,H p=none->wEs G es U (upd H p (.dK [])) (λxs H2=>rM ks p xs H2 Q) E
 | .dget a k d,U,H,Q,E=>False
 | .rev a b,U,H,Q,E=>False
 | .lix a b,U,H,Q,E=>False
 | .vals tp a,U,H,Q,E=>G.cm=true/\wE G a U H (λx H1=>pj tp x H1 Q) E
 | .dzip a b,U,H,Q,E=>G.cm=true/\wE G a U H (λx H1=>wE G b U H1 (λy H2=>GI G.R.K x y H2 Q) E) E
noncomputable def wT (G:Gx):Tx->St->Hp->(Bool->Hp->Prop)->XK->Prop
 | .not a,U,H,Q,E=>wT G a U H (λc H1=>Q (!c) H1) E
 | .and a b,U,H,Q,E=>wT G a U H (λc H1=>gF c (wT G b U H1 Q E) (Q false H1)) E
 | .or a b,U,H,Q,E=>wT G a U H (λc H1=>gF c (Q true H1) (wT G b U H1 Q E)) E
 | .cmp op a b,U,H,Q,E=>wE G a U H (λx H1=>wE G b U H1 (λy H2=>jm G.R.K op x y H2 λz H3=>match z with| .bl k=>Q k H3|_=>False) E) E
 | .cmp2 o1 o2 a b c,U,H,Q,E=>wE G a U H (λx H1=>wE G b U H1 (λy H2=>jm G.R.K o1 x y H2 λz H3=>match z with| .bl k=>gF k (wE G c U H3 (λw H4=>jm G.R.K o2 y w H4 λz H5=>match z with| .bl k=>Q k H5|_=>False) E) (Q false H3)|_=>False) E) E
 | .val e,U,H,Q,E=>wE G e U H (λx H1=>EC G.R.K x H1 Q) E
noncomputable def wEs (G:Gx):ft->St->Hp->(List V->Hp->Prop)->XK->Prop
 | .nil,_,H,Q,_=>Q [] H
 | .cons e es,U,H,Q,E=>wE G e U H (λx H1=>wEs G es U H1 (λxs H2=>Q (x::xs) H2) E) E
noncomputable def wO (G:Gx):HP->St->Hp->(Option Int->Hp->Prop)->XK->Prop
 | .no,_,H,Q,_=>Q none H
 | .yes e,U,H,Q,E=>wE G e U H (λx H1=>match x with| .int i=>Q (some i) H1|_=>False) E
noncomputable def wI (G:Gx):BI->St->Hp->(It->Hp->Prop)->XK->Prop
 | .rng1 a,U,H,R,E=>wE G a U H (λx H1=>match x with| .int j=>-(2 ^ 62)<=j/\j<2 ^ 62/\R (BY 0 j.toNat) H1|_=>False) E
 | .rng2 a b,U,H,R,E=>wE G a U H (λx H1=>wE G b U H1 (λy H2=>match x,y with| .int i,.int j=>(-(2 ^ 62)<=i/\i<2 ^ 62/\ -(2 ^ 62)<=j/\j<2 ^ 62)/\R (BY i (j-i).toNat) H2|_,_=>False) E) E
 | .rng3 a b c,U,H,R,E=>False
 | .enm a,U,H,R,E=>wE G a U H (λx H1=>match x with| .ref l=>Ab l H1 R|_=>False) E
 | .enf a,U,H,R,E=>False
 | .seq a,U,H,R,E=>wE G a U H (λx H1=>match x with| .ref p=>qE G.R.K p H1 R| .str z=>R (E3 z) H1|_=>False) E
 | .zip a b,U,H,R,E=>wE G a U H (λx H1=>wE G b U H1 (λy H2=>yV G.R.K x y H2 R) E) E
 | .zip3 a b c,U,H,R,E=>False
end
abbrev II (D:Ends)(f:St->Hp->Prop):Ends:={ D with nx:=f }
abbrev BS (D:Ends)(N:St->Hp->Prop):Ends:={ D with nx:=N,ct:=N,bk:=D.nx }
abbrev JV (D:Ends)(i:Nat):Ends:={ nx:=λσ' H'=>D.nx (σ'.set i none) H',rt:=D.rt,bk:=λσ' H'=>D.bk (σ'.set i none) H',ct:=λσ' H'=>D.ct (σ'.set i none) H' }
abbrev wG (U:St)(t:HC)(K:W.Frag)(x:V)(H:Hp)(Q:St->Prop):Prop:=match t with
 | .nm i=>Q (U.set i (some x))
 | .tp is=>∃ a xs,x=.ref a/\(aZ K H a xs\/aY K H a xs)/\xs.length=is.length/\Q (uE U is xs)
 | .nt i is=>∃ a y b ys,x=.ref a/\aZ K H a [y,.ref b]/\aZ K H b ys/\ys.length=is.length/\Q (uE (U.set i (some y)) is ys)
@[irreducible] noncomputable def kI (J:It) (D:Ends) (F:(St->Hp->Prop)->V->St->Hp->Prop) (U:St) (H1:Hp):Prop:=∃ W:Nat->Nat->St->Hp->Prop,(∃ m,W 0 m U H1)/\∀ i m U H,W i m U H->
 (J.stop i H/\D.nx U H)\/(J.go i H/\∃ N:St->Hp->Prop,(∀ σ' H',N σ' H'->∃ m',m'<m/\W (i+1) m' σ' H')/\∀ x H',J.yld i H x H'->F N x U H')
mutual
noncomputable def wS:Sx->Gx->Ends->(St->XK)->St->Hp->Prop
 | .asg i e,G,D,E,U,H=>wE G e U H (λx H1=>D.nx (U.set i (some x)) H1) (E U)
 | .asgT is e,G,D,E,U,H=>G.cm=true/\wE G e U H (λx H1=>wG U (.tp is) G.R.K x H1 λσ1=>D.nx σ1 H1) (E U)
 | .par is es,G,D,E,U,H=>G.cm=true/\wEs G es U H (λxs H1=>xs.length=is.length/\D.nx (uE U is xs) H1) (E U)
 | .sub o i v,G,D,E,U,H=>wE G v U H (λy H1=>wE G o U H1 (λov H2=>wE G i U H2 (λiv H3=>eD ov iv y H3 (λH4=>D.nx U H4)) (E U)) (E U)) (E U)
 | .fld o f v,G,D,E,U,H=>wE G v U H (λy H1=>wE G o U H1 (λx H2=>y9 G f x y H2 (λH3=>D.nx U H3)) (E U)) (E U)
 | .aug i op e,G,D,E,U,H=>(match U[i]? with|some (some x)=>wE G e U H (λy H1=>Hx op x y H1 λz H2=>D.nx (U.set i (some z)) H2) (E U)|_=>False)
 | .augS o i op e,G,D,E,U,H=>wE G o U H (λov H1=>wE G i U H1 (λiv H2=>vD G.R.K ov iv H2 (λx H3=>wE G e U H3 (λy H4=>Hx op x y H4 (λz H5=>eD ov iv z H5 (λH6=>D.nx U H6))) (E U))) (E U)) (E U)
 | .ret e,G,D,E,U,H=>wE G e U H D.rt (E U)
 | .retN,_,D,_,_,H=>False
 | .pass,_,D,_,U,H=>False
 | .brk,_,D,_,U,H=>False
 | .cont,_,D,_,U,H=>False
 | .expr e,G,D,E,U,H=>wE G e U H (λ_ H1=>D.nx U H1) (E U)
 | .ife c a b,G,D,E,U,H=>wT G c U H (λk H1=>gF k (wB a G D E U H1) (wB b G D E U H1)) (E U)
 | .whl c b,G,D,E,U,H=>∃ W:Nat->St->Hp->Prop,(∃ m,W m U H)/\∀ m U H,W m U H->wT G c U H (λk H1=>gF k (∃ N:St->Hp->Prop,(∀ σ' H',N σ' H'->∃ m',m'<m/\W m' σ' H')/\wB b G (BS D N) E U H1) (D.nx U H1)) (E U)
 | .for t it b,G,D,E,U,H=>G.cm=true/\wI G it U H (λJ H1=>kI J D (λN x U H'=>wG U t G.R.K x H' λσ2=>wB b G (BS D N) E σ2 H') U H1) (E U)
 | .rais e,G,_,E,U,H=>G.cm=true/\wE G e U H (λv H1=>∃ a i dx fs,v=.ref a/\H1 a=some (.exc (G.R.cad i) dx fs true)/\G.T.xc.contains i=true/\E U a (upd H1 a (.exc (G.R.cad i) dx fs false))) (E U)
 | .tryx b hs,G,D,_,U,H=>G.cm=true/\wB b G D (λσ' e H'=>wH hs G D σ' e H') U H
noncomputable def wB:kP->Gx->Ends->(St->XK)->St->Hp->Prop
 | .nil,_,D,_,U,H=>D.nx U H
 | .cons s r,G,D,E,U,H=>wS s G (II D λσ1 H1=>wB r G D E σ1 H1) E U H
noncomputable def wH:yF->Gx->Ends->St->Addr->Hp->Prop
 | .nil,_,_,_,_,_=>False
 | .cons c i b hs,G,D,U,e,H=>∃ j dx fs k,H e=some (.exc (G.R.cad j) dx fs false)/\G.T.xc.contains j=true/\G.T.sub.lookup (j,c)=some k/\
   gF k (wB b { G with cm:=false } (JV D i) (λ_ _ _=>False) (U.set i (some (.ref e))) H)
    (wH hs G D U e H)
end
end L3
namespace L3
open PySem PySem.Spec L2 PyProof.Rows
structure Sn where
 T:Tab
 sc:Scope
 N:List Str
abbrev Sn.mF (S:Sn)(x:Str):Bool:=decide (S.sc.names.lookup x=some .globalImplicit)&& !(x ==("__debug__":Str))
abbrev Sn.CH (S:Sn)(x:Str):Bool:=(decide (S.sc.names.lookup x=some .local)||decide (S.sc.names.lookup x=some .cell)||decide (S.sc.names.lookup x=some .free))&& !(x ==("__debug__":Str))&& !(x ==("__classdict__":Str))
abbrev Sn.loc (S:Sn)(i:Nat)(x:Str):Bool:=decide (S.N[i]? =some x)&&(decide (S.sc.names.lookup x=some .local)||decide (S.sc.names.lookup x=some .cell))
abbrev qt:Expr->Bool
 | .ListComp .. | .SetComp .. | .DictComp ..=>false
 |_=>true
abbrev cC:Expr->Bool
 | .Set ..=>false
 |_=>true
abbrev en:Expr->Bool
 | .Slice ..=>false
 |_=>true
abbrev et:Expr->Bool
 | .Call (.Name _ _) [] [] _=>false
 |_=>true
abbrev plainT:Expr->Bool
 | .UnaryOp .Not _ _| .BoolOp .. | .IfExp .. | .Compare ..=>false
 |_=>true
abbrev vS:Bf->String
 | .len=>"len"| .list=>"list"| .tuple=>"tuple"| .int=>"int"| .str=>"str"| .min=>"min"| .max=>"max"| .abs=>"abs"| .all=>"all"| .any=>"any"| .dict=>"dict"| .sum=>"sum"
abbrev vY:Lm->String
 | .append=>"append"| .extend=>"extend"| .insert=>"insert"| .pop=>"pop"| .clear=>"clear"| .reverse=>"reverse"| .count=>"count"
abbrev jc:List String:=["int","bool","str","list","tuple","dict","ValueError"]
abbrev zu (S:Sn):Cl->Expr->Bool
 | .own c,.Name x _=>S.mF x&&decide (S.T.gcl.lookup x=some c)
 | .ty n,.Name x _=>S.mF x&&decide (x=(n:Str))&&S.T.gbl.contains x&&jc.contains n
 |_,_=>false
abbrev eI (outer inner:Scope):Scope:=
 { inner with names:=inner.names.map λ(n,k)=>if(k ==.free&&outer.kind ==.function&&outer.names.lookup n ==some .cell) then(n,.cell) else(n,k) }
abbrev gU (S:Sn)(scope:Scope)(xs:List Str)(sel:List Nat):Bool:=
 decide (scope.kind=.function)&&decide (S.sc.kind=.function)&&scope.names.all (λy=>y.2 != .cell&&(y.2 != .local||decide (scope.names.lookup y.1=some .local))&&(y.2 != .free||(decide (S.sc.names.lookup y.1=some .cell))))&&xs.all (λx=>decide (scope.names.lookup x=some .local))&&
 sel.all (λi=>match S.N[i]? with|some y=>decide (S.sc.names.lookup y=some .cell)&&decide ((eI S.sc scope).names.lookup y=some .cell)|none=>false)&&decide ((xs++sel.filterMap λi=>S.N[i]?).Nodup)
abbrev Gh:List Expr->List Str
 | .Name x _::r=>x::Gh r
 |_=>[]
abbrev wm (S:Sn):List Nat->List Expr->Bool
 | [],[]=>true
 |i::is,.Name x _::r=>decide (S.N[i]? =some x)&&decide (S.sc.names.lookup x=some .local)&&wm S is r
 |_,_=>false
abbrev ng:List Str->List (Option Expr)->Bool
 | [],[]=>true
 |k::ks,some (.Constant (.str x) _ _)::r=>decide (k=x)&&ng ks r
 |_,_=>false
mutual
noncomputable def mE (S:Sn):Ex->Expr->Bool
 | .v i,e=>match e with| .Name x _=>decide (S.N[i]? =some x)&&S.CH x|_=>false
 | .int i,e=>match e with| .Constant y1 _ _=>(match y1 with| .int j=>decide (i=j)|_=>false)|_=>false
 | .bl i,e=>match e with| .Constant y1 _ _=>(match y1 with| .bool j=>decide (i=j)|_=>false)|_=>false
 | .non,e=>match e with| .Constant y1 _ _=>(match y1 with| .none=>true|_=>false)|_=>false
 | .str i,e=>match e with| .Constant y1 _ _=>(match y1 with| .str j=>decide (i=j)|_=>false)|_=>false
 | .gl x,e=>match e with| .Name y _=>decide (x=y)&&S.mF y|_=>false
 | .bin op a b,e=>match e with| .BinOp a' op' b' _=>decide (op=op')&&mE S a a'&&mE S b b'|_=>false
 | .neg a,e=>match e with| .UnaryOp y1 a' _=>(match y1 with| .USub=>mE S a a'|_=>false)|_=>false
 | .not a,e=>match e with| .UnaryOp y1 a' _=>(match y1 with| .Not=>mE S a a'|_=>false)|_=>false
 | .and a b,e=>match e with| .BoolOp y1 y2 p=>(match y1 with| .And=>(match y2 with|a'::b'::r=>mE S a a'&&mE S b (match r with| []=>b'|_=>.BoolOp .And (b'::r) p)|_=>false)|_=>false)|_=>false
 | .or a b,e=>match e with| .BoolOp y1 y2 p=>(match y1 with| .Or=>(match y2 with|a'::b'::r=>mE S a a'&&mE S b (match r with| []=>b'|_=>.BoolOp .Or (b'::r) p)|_=>false)|_=>false)|_=>false
 | .cmp op a b,e=>match e with| .Compare a' y1 y2 _=>(match y1 with| [op']=>(match y2 with| [b']=>decide (op=op')&&mE S a a'&&mE S b b'&&cC b'|_=>false)|_=>false)|_=>false
 | .cmp2 o1 o2 a b c,e=>match e with| .Compare a' y1 y2 _=>(match y1 with| [p1,p2]=>(match y2 with| [b',c']=>decide (o1=p1)&&decide (o2=p2)&&mE S a a'&&mE S b b'&&mE S c c'&&cC c'|_=>false)|_=>false)|_=>false
 | .cmp3 o1 o2 o3 a b c d,e=>match e with| .Compare a' y1 y2 _=>(match y1 with| [p1,p2,p3]=>(match y2 with| [b',c',d']=>decide (o1=p1)&&decide (o2=p2)&&decide (o3=p3)&&mE S a a'&&mE S b b'&&mE S c c'&&mE S d d'&&cC d'|_=>false)|_=>false)|_=>false
 | .ife c a b,e=>match e with| .IfExp c' a' b' _=>mT S c c'&&mE S a a'&&mE S b b'|_=>false
 | .tup es,e=>match e with| .Tuple es' _ _=>iT S es es'|_=>false
 | .lst es,e=>match e with| .List es' _=>iT S es es'|_=>false
 | .ix a i,e=>match e with| .Subscript a' i' _=>mE S a a'&&mE S i i'&&en i'|_=>false
 | .sl a lo hi,e=>match e with| .Subscript a' y1 _=>(match y1 with| .Slice lo' hi' y2 _=>(match y2 with|none=>mE S a a'&&mO S lo lo'&&mO S hi hi'|_=>false)|_=>false)|_=>false
 | .fld a f,e=>match e with| .Attribute a' f' _=>mE S a a'&&decide (f=f')&&et a'|_=>false
 | .call f es,e=>match e with| .Call y1 es' y2 _=>(match y1 with| .Name x _=>(match y2 with| []=>S.mF x&&decide (S.T.gfn.lookup x=some f)&&iT S es es'|_=>false)|_=>false)|_=>false
 | .meth a m es,e=>match e with| .Call y1 es' y2 q=>(match y1 with| .Attribute a' m' p=>(match y2 with| []=>mE S a a'&&decide (m=m')&&iT S es es'&&et a'&&(p.endLine ==q.line)&&decide (es.len<20)|_=>false)|_=>false)|_=>false
 | .dget a k d,_=>false
 | .rev a b,_=>false
 | .lix a b,_=>false
 | .lm m a es,e=>match e with| .Call y1 es' y2 q=>(match y1 with| .Attribute a' m' p=>(match y2 with| []=>mE S a a'&&decide (m'=(vY m:Str))&&iT S es es'&&et a'&&(p.endLine ==q.line)&&decide (es.len<20)|_=>false)|_=>false)|_=>false
 | .make c es,e=>match e with| .Call y1 es' y2 _=>(match y1 with| .Name x _=>(match y2 with| []=>S.mF x&&decide (S.T.gcl.lookup x=some c)&&iT S es es'|_=>false)|_=>false)|_=>false
 | .bini es,e=>match e with| .Call y1 es' y2 q=>(match y1 with| .Attribute y3 m p=>(match y3 with| .Name x _=>(match y2 with| []=>S.mF x&&decide (m=("__init__":Str))&&S.T.gbi.contains x&&iT S es es'&&decide (es.len=2)&&(p.endLine ==q.line)|_=>false)|_=>false)|_=>false)|_=>false
 | .cini c es,_=>false
 | .bf b es,e=>match e with| .Call y1 es' y2 _=>(match y1 with| .Name x _=>(match y2 with| []=>S.mF x&&decide (x=(vS b:Str))&&S.T.gbl.contains x&&iT S es es'&&decide (0<es.len)|_=>false)|_=>false)|_=>false
 | .isi a c,e=>match e with| .Call y1 y2 y3 _=>(match y1 with| .Name x _=>(match y3 with| []=>(match y2 with| [a',c']=>S.mF x&&decide (x=("isinstance":Str))&&S.T.gbl.contains x&&mE S a a'&&zu S c c'|_=>false)|_=>false)|_=>false)|_=>false
 | .lc elt sel it,e=>match e with| .ListComp elt' y1 scope _=>(match y1 with| [y2]=>(match y2 with|⟨y3,iter,y4,y5⟩=>(match y3 with| .Name x px=>(match y4 with| []=>(match y5 with|0=>gU S scope [x] sel&&mI S it (.Name x px) iter&&mE { S with sc:=eI S.sc scope,N:=x::sel.filterMap λi=>S.N[i]? } elt elt'&&cC iter|_=>false)|_=>false)|_=>false))|_=>false)|_=>false
 | .lci elt c sel it,_=>false
 | .lct elt n sel it,_=>false
 | .lcu elt c n sel it,_=>false
 | .dnew,_=>false
 | .sm m a b,_=>false
 | .up a,_=>false
 | .isiT a cs,_=>false
 | .mk0 c,e=>match e with| .Call y1 y2 y3 _=>(match y1 with| .Name x _=>(match y2 with| []=>(match y3 with| []=>S.mF x&&decide (S.T.gcl.lookup x=some c)&&S.T.inip.contains c|_=>false)|_=>false)|_=>false)|_=>false
 | .disp ks es,e=>match e with| .Dict keys vals _=>ng ks keys&&iT S es vals&&decide (es.len=ks.length)&&decide (0<ks.length)&&decide (ks.length<=15)|_=>false
 | .vals tp a,e=>match e with| .Call y1 y2 y3 _=>(match y1 with| .Name x _=>(match y3 with| []=>(match y2 with| [y4]=>(match y4 with| .Call y5 y6 y7 q=>(match y5 with| .Attribute a' m p=>(match y6 with| []=>(match y7 with| []=>S.mF x&&decide (x=zj tp)&&S.T.gbl.contains x&&mE S a a'&&decide (m=("values":Str))&&et a'&&(p.endLine ==q.line)|_=>false)|_=>false)|_=>false)|_=>false)|_=>false)|_=>false)|_=>false)|_=>false
 | .dzip a b,e=>match e with| .Call y1 y2 y3 _=>(match y1 with| .Name x _=>(match y3 with| []=>(match y2 with| [y4]=>(match y4 with| .Call y5 y6 y7 _=>(match y5 with| .Name y _=>(match y7 with| []=>(match y6 with| [a',b']=>S.mF x&&decide (x=("dict":Str))&&S.T.gbl.contains x&&S.mF y&&decide (y=("zip":Str))&&S.T.gbl.contains y&&mE S a a'&&mE S b b'&&notStar a'&&notStar b'|_=>false)|_=>false)|_=>false)|_=>false)|_=>false)|_=>false)|_=>false)|_=>false
noncomputable def mT (S:Sn):Tx->Expr->Bool
 | .not a,e=>match e with| .UnaryOp y1 a' _=>(match y1 with| .Not=>mT S a a'|_=>false)|_=>false
 | .and a b,e=>match e with| .BoolOp y1 y2 p=>(match y1 with| .And=>(match y2 with|a'::b'::r=>mT S a a'&&mT S b (match r with| []=>b'|_=>.BoolOp .And (b'::r) p)|_=>false)|_=>false)|_=>false
 | .or a b,e=>match e with| .BoolOp y1 y2 p=>(match y1 with| .Or=>(match y2 with|a'::b'::r=>mT S a a'&&mT S b (match r with| []=>b'|_=>.BoolOp .Or (b'::r) p)|_=>false)|_=>false)|_=>false
 | .cmp op a b,e=>match e with| .Compare a' y1 y2 _=>(match y1 with| [op']=>(match y2 with| [b']=>decide (op=op')&&mE S a a'&&mE S b b'&&cC b'|_=>false)|_=>false)|_=>false
 | .cmp2 o1 o2 a b c,e=>match e with| .Compare a' y1 y2 _=>(match y1 with| [p1,p2]=>(match y2 with| [b',c']=>decide (o1=p1)&&decide (o2=p2)&&mE S a a'&&mE S b b'&&mE S c c'&&cC c'|_=>false)|_=>false)|_=>false
 | .val e,e'=>mE S e e'&&plainT e'
noncomputable def iT (S:Sn):ft->List Expr->Bool
 | .nil,es=>es.isEmpty
 | .cons e es,l=>match l with|e'::es'=>mE S e e'&&notStar e'&&iT S es es'| []=>false
noncomputable def mO (S:Sn):HP->Option Expr->Bool
 | .no,o=>o.isNone
 | .yes e,o=>match o with|some e'=>mE S e e'|none=>false
noncomputable def mI (S:Sn):BI->Expr->Expr->Bool
 | .rng1 a,_,e=>match e with| .Call y1 y2 y3 _=>(match y1 with| .Name x _=>(match y3 with| []=>(match y2 with| [a']=>S.mF x&&decide (x=("range":Str))&&S.T.gbl.contains x&&mE S a a'&&notStar a'|_=>false)|_=>false)|_=>false)|_=>false
 | .rng2 a b,_,e=>match e with| .Call y1 y2 y3 _=>(match y1 with| .Name x _=>(match y3 with| []=>(match y2 with| [a',b']=>S.mF x&&decide (x=("range":Str))&&S.T.gbl.contains x&&mE S a a'&&mE S b b'&&notStar a'&&notStar b'|_=>false)|_=>false)|_=>false)|_=>false
 | .rng3 a b c,_,e=>false
 | .enm a,t,e=>match e with| .Call y1 y2 y3 _=>(match y1 with| .Name x _=>(match y3 with| []=>(match y2 with| [a']=>S.mF x&&decide (x=("enumerate":Str))&&S.T.gbl.contains x&&mE S a a'&&notStar a'&&(match t with| .Tuple ..=>true|_=>false)|_=>false)|_=>false)|_=>false)|_=>false
 | .enf a,t,e=>false
 | .seq a,_,e=>mE S a e
 | .zip a b,t,e=>match e with| .Call y1 y2 y3 _=>(match y1 with| .Name x _=>(match y3 with| []=>(match y2 with| [a',b']=>S.mF x&&decide (x=("zip":Str))&&S.T.gbl.contains x&&mE S a a'&&mE S b b'&&notStar a'&&notStar b'&&(match t with| .Tuple ..=>true|_=>false)|_=>false)|_=>false)|_=>false)|_=>false
 | .zip3 a b c,t,e=>false
end
end L3
namespace L3
open PySem PySem.Spec L2
variable {e:Expr}
def plainT_ok (h:plainT e=true)(env:Env)(whole:Sem Value):isTrue e env whole=(do let v <-whole;standAt e.pos;holding [v] (truthy v)):=by
 cases e<;>first|rfl|(cases h)|skip
 case UnaryOp op a p=>cases op<;>first|rfl|cases h
def cw (h:cC e=true)(env:Env)(x:Value):foldedSetIterable e env x=pure x:=by
 cases e<;>first|rfl|cases h
def cE (h:cC e=true)(op:CmpOp):behindInMarks op e=false:=by
 cases e<;>first|rfl|cases h
def gu (h:qt e=true)(t:Option Expr)(n:Nat)(env:Env):swapsWith e t n env=pure false:=by
 cases e<;>first|rfl|cases h
variable {o:Expr}
def bQ (h:et o=true)(a:Str)(env:Env)(whole:Sem Value):attributeBase o a env whole=whole:=by
 cases o with
 |Call f as ks p=>
  cases f<;>first|rfl|skip
  case Name x q=>
   cases as with
   |nil=>cases ks with
    |nil=>cases h
    |cons k ks=>rfl
   |cons b bs=>rfl
 |_=>rfl
variable {b:Expr}
def rf (h:en b=true):tH b:=by
 intro o i;cases b<;>first|rfl|cases h
variable {X:Cx}
def PE.bS {t:TE}(h:PE X e t):PE X e (λU H R=>∃ Q,t U H Q/\∀ x H1,Q x H1->R x H1):=λY s U H R I ⟨Q,q,i⟩=>
 aw (h Y s U H Q I q) λ_ _ ⟨v,H',J,r,z⟩=>⟨v,H',J,r,i _ _ z⟩
variable {t:TT}
def PT.bS (h:PT X e t):PT X e (λU H R=>∃ Q,t U H Q/\∀ x H1,Q x H1->R x H1):=λY s U H R I ⟨Q,q,i⟩=>
 aw (h Y s U H Q I q) λ_ _ ⟨H',J,z⟩=>⟨H',J,i _ _ z⟩
def PA.bS {e:List Expr}{t:TA}(h:PA X e t):PA X e (λU H R=>∃ Q,t U H Q/\∀ x H1,Q x H1->R x H1):=λpos Y s U H R I ⟨Q,q,i⟩=>
 aw (h pos Y s U H Q I q) λ_ _ ⟨v,H',J,r,z⟩=>⟨v,H',J,r,i _ _ z⟩
def PE.imp {t t':TE}(h:PE X e t)(hi:∀ U H Q,t' U H Q->t U H Q):PE X e t':=λY s U H Q I q=>h Y s U H Q I (hi _ _ _ q)
def PT.imp {t':TT}(h:PT X e t)(hi:∀ U H Q,t' U H Q->t U H Q):PT X e t':=λY s U H Q I q=>h Y s U H Q I (hi _ _ _ q)
def PS.imp {e:Stmt}{t t':TS}(h:PS X e t)(hi:∀ D U H,t' D U H->t D U H):PS X e t':=λY s U H D I q=>h Y s U H D I (hi _ _ _ q)
structure vO (P:Program) (w:World) (K:W.Frag) (mg:KH) (base:Heap) (k:Nat) (f:Addr) (d:aq) (sp:Sp):Prop where
 fact:∃ fd,cM P w K mg base (xM P w) k f fd d.ps sp/\∀ j,∃ ds,Binds K fd d.ps ds/\Vals (d.dfl.drop j) ds
 own:∀ fd oc od osl,K.lookup f=some ⟨oc,od,.func fd,osl⟩->cM P w K mg base (xM P w) k f fd d.ps sp
structure Ar (K:W.Frag) (mg:KH) (T:Tab) (R:Rt):Prop where
 gfn:∀ x f,T.gfn.lookup x=some f->mg x=some (.ref (R.fad f))/\W.keepIn K (.ref (R.fad f))=true/\∃ d,T.fns[f]? =some d
 gcl:∀ x c,T.gcl.lookup x=some c->mg x=some (.ref (R.cad c))
 gbl:∀ x,T.gbl.contains x=true->mg x=none/\x≠"__name__"
 gbi:∀ x,T.gbi.contains x=true->∃ B,mg x=some (.ref B)/\JF K B
 gl:∀ x v,R.gl x=some v->∃ u,mg x=some u/\RelV v u
 na:∀ i f,T.na.contains (i,f)=true->d6 K (R.cad i) f
 me:∀ i m f,T.me.lookup (i,m)=some f->zT K (R.cad i)/\Meth K (R.cad i) m (R.fad f)/\∃ d,T.fns[f]? =some d
 ini0:∀ c,T.ini0.contains c=true->Dl K (R.cad c)
 inip:∀ c,T.inip.contains c=true->JJ K (R.cad c)
 ini:∀ c f,T.ini.lookup c=some f->(∃ d,T.fns[f]? =some d)/\if T.xc.contains c=true then Hu K (R.cad c) (R.fad f) else Mk K (R.cad c) (R.fad f)
 oc:∀ c,T.oc.contains c=true->zT K (R.cad c)/\IE K (R.cad c)
 xc:∀ c,T.xc.contains c=true->cz K (R.cad c)/\xi K (R.cad c)
 sub:∀ i j b,T.sub.lookup (i,j)=some b->W.kitOne K (.ref (R.cad i)) (.ref (R.cad j))=some b/\(T.xc.contains i=true->W.mroIn K (R.cad i) (.ref (R.cad j))=some b/\cz K (R.cad j))
 subT:∀ i n b,T.subT.lookup (i,n)=some b->W.kitOne K (.ref (R.cad i)) (.type n)=some b
 subB:∀ t n b,T.subB.lookup (t,n)=some b->W.kitOne K (.type t) (.type n)=some b
 subO:∀ t j b,T.subO.lookup (t,j)=some b->W.kitOne K (.type t) (.ref (R.cad j))=some b
 cin:∀ c f,T.cin.lookup c=some f->J3 K (R.cad c) (R.fad f)/\∃ d,T.fns[f]? =some d
structure Gd (X:Cx) (G:Gx) (S:Sn) (k:Nat) (E:St->XK):Prop where
 hK:G.R.K=X.K
 hT:S.T=G.T
 sc:X.env.scope=S.sc
 N:X.N=S.N
 nd:S.N.Nodup
 pass:Passes (xM X.prog X.w) X E
 cm:G.cm=true->X.calm=true
 room:G.cm=true->bI (k+1) X.A
 un:X.A.units+200<cLine
 tab:Ar X.K X.mg G.T G.R
 fns:∀ f d,G.T.fns[f]? =some d->vO X.prog X.w X.K X.mg X.base k (G.R.fad f) d (G.Ψ f)
variable {x:Str}{l es:List Expr}
section
variable {X:Cx}{G:Gx}{S:Sn}{k:Nat}{E:St->XK}
def Gd.bin (g:Gd X G S k E)(op:Operator):cy X (binaryOp op) (Dr G.R.K op):=g.hK▸CD op
def Gd.cmp (g:Gd X G S k E)(op:CmpOp):cy X (compareOp op) (jm G.R.K op):=g.hK▸Ew g.un op
def Gd.glob (g:Gd X G S k E)(h:S.mF x=true):Gl X x/\(x ==("__debug__":Str))=false:=by
 unfold Sn.mF at h;simp only[lw,decide_eq_true_eq,Bool.not_eq_true']at h;refine⟨?_,h.2⟩;show X.env.scope.names.lookup x=_;rw[g.sc];exact h.1
def Gd.CH (g:Gd X G S k E)(h:S.CH x=true):Gg X.env.scope x/\(x ==("__debug__":Str))=false/\(x ==("__classdict__":Str))=false:=by
 unfold Sn.CH at h;simp only[lw,Bool.or_eq_true,decide_eq_true_eq,Bool.not_eq_true']at h;refine⟨?_,h.1.2,h.2⟩;unfold Gg;rw[g.sc];rcases h.1.1 with(h|h)|h
 .exact .inl h
 .exact .inr (.inl h)
 .exact .inr (.inr h)
def Gd.loc (g:Gd X G S k E){i:Nat}(h:S.loc i x=true):X.N[i]? =some x/\L2.Loc X.env.scope x:=by
 unfold Sn.loc at h;simp only[lw,Bool.or_eq_true,decide_eq_true_eq]at h;rw[g.N];refine⟨h.1,?_⟩;unfold L2.Loc;rw[g.sc];exact h.2
def aQ:∀ {es:ft}{l:List Expr},iT S es l=true->∀ (env:Env) (pos:Pos),(backTo pos (bm l env)).any (·.1)=false
 | .nil,[],_,_,_=>rfl
 | .nil,_::_,h,_,_=>by cases(show false=true from h)
 | .cons e es,[],h,_,_=>by cases(show false=true from h)
 | .cons e es,e'::l,h,env,pos=>by
  have h:(mE S e e'&&notStar e'&&iT S es l)=true:=h;simp only[lw]at h;rw[ab h.1.2];show((backTo pos (bm l env)).any (·.1))=false;exact aQ h.2 env pos
def mh:∀ {es:ft}{l:List Expr},iT S es l=true->l.length=es.len
 | .nil,[],_=>rfl
 | .nil,_::_,h=>by cases(show false=true from h)
 | .cons e es,[],h=>by cases(show false=true from h)
 | .cons e es,e'::l,h=>by
  have h:(mE S e e'&&notStar e'&&iT S es l)=true:=h;simp only[lw]at h;show l.length+1=es.len+1;rw[mh h.2]
def bj {es:ft}(h:iT S es (e::l)=true):notStar e=true/\∃ x es',es=.cons x es'/\iT S es' l=true:=by
 cases es with
 |nil=>cases(show false=true from h)
 |cons x es'=>
  have h:(mE S x e&&notStar e&&iT S es' l)=true:=h;simp only[lw]at h;exact⟨h.1.2,x,es',rfl,h.2⟩
def sF:∀ {es:ft}{l:List Expr},iT S es l=true->es.len<20->∀ (env:Env) (cpos:Pos),methodCallForm (l.length+([]:List Keyword).length) (backTo cpos (bm l env)) (backToKw cpos (keywordEach [] env))=true:=by
 intro es l h hl env cpos;have h1:=aQ h env cpos;have h2:=mh h;have h3:(backTo cpos (bm l env)).all (λx=>!x.1)=true:=by
  rw[all_eq_true];intro x hx;rw[any_eq_false]at h1;simpa using h1 x hx
 unfold methodCallForm;rw[h3,h2];simp[keywordEach,backToKw]
 omega
def ly {m:Str}{apos pos:Pos}{env:Env}(hb:et o=true)(hf:methodCallForm (es.length+([]:List Keyword).length) (backTo pos (bm es env)) (backToKw pos (keywordEach [] env))=true)(hl:(apos.endLine ==pos.line)=true):
  eval (.Call (.Attribute o m apos) es [] pos) env=(do
   let ov <-eval o env
   standAt apos.atName
   let(f,first) <-holding [ov] (getMethod ov m (do return (<-importBound o env).getD true))
   callWith pos f first (backTo pos (bm es env)) (backToKw pos (keywordEach [] env))):=by
 show(do
  let ov <-attributeBase o m env (eval o env)
  standAt apos.atName
  methodCall o m apos pos env ov (es.length+([]:List Keyword).length) (backTo pos (bm es env)) (backToKw pos (keywordEach [] env)))=_
 rw[bQ hb];unfold methodCall calleeOf methodCallPos;rw[hf,hl]
 rfl
def DV {es:ft}(h:iT S es (e::l)=true)(hl:es.len<20)(env:Env)(cpos:Pos):
  ((backTo cpos (bm (e::l) env)).all (λx=>!x.1)&&(backToKw cpos (keywordEach [] env)).all (λx=>x.1.isSome)
   &&decide ((e::l).length+([]:List Keyword).length+(if([]:List Keyword).isEmpty then 0 else 1)<30))=true:=by
 have h1:=aQ h env cpos;have h2:=mh h;have h3:(backTo cpos (bm (e::l) env)).all (λx=>!x.1)=true:=by
  rw[all_eq_true];intro x hx;rw[any_eq_false]at h1;simpa using h1 x hx
 rw[h3,h2];simp[keywordEach,backToKw]
 omega
end
variable {K:W.Frag}{H:Hp}{Y:KG}{a:Addr}
section
variable {X:Cx}{G:Gx}{S:Sn}{k:Nat}{E:St->XK}
def lI {x:V}{t:String}(h:tyName x H=some t):gT K H x (.type t):=by
 unfold tyName at h
 split at h
 .cases h;exact .non
 .cases h;exact .bl _
 .cases h;exact .int _
 .cases h;exact .str _
 .split at h
  .rename_i e;cases h;exact .lst e
  .rename_i e;cases h;exact .tup e
  .rename_i e;cases h;exact .dK (.inl e)
  .rename_i e;cases h;exact .dK (.inr ⟨_,e⟩)
  .cases h
 .cases h
def tL {s:Shared}{U:St}{Q:VK}{i:Nat}{b:Bool}{cv:Value}(g:Gd X G S k E)(I:Inv X Y U H s)(o:v7 G H a i)
  (e:W.kitOne X.K (.ref (G.R.cad i)) cv=some b) (q:Q (.bl b) H):wpAny (model X.prog X.w) X.A (call (.builtin "isinstance") [.ref a,cv]) (EP X Y U Q) X.xe s:=by
 rcases o with⟨ho,dx,fs,ha⟩|⟨ho,dx,fs,fr,ha⟩
 .obtain⟨c,z⟩:=g.tab.oc i ho;exact gL I (x:=.ref a) rfl (.ins ha c z.ha z.hn z.htk z.hm) e λtk=>⟨.bl b,H,I.tok _,rfl,q⟩
 .obtain⟨c,z⟩:=g.tab.xc i ho;exact we I ha c z e λtk=>⟨.bl b,H,I.tok _,rfl,q⟩
def As (g:Gd X G S k E)(j:Nat):cB X (.builtin "isinstance") (λvs H Q=>∃ x,vs=[x,.ref (G.R.cad j)]/\kS G (.own j) x H Q):=by
 intro Y s U H xs us Q I r h;obtain⟨x,rfl,h⟩:=h;obtain⟨u,w',rfl,rx,rT⟩:=vals2 r;obtain rfl:w'=Value.ref (G.R.cad j):=rT;unfold kS at h;rcases h with⟨t,b,ht,hb,q⟩|⟨a,i,b,rfl,ho,hb,q⟩
 .exact gL I rx (lI ht) (g.tab.subO t j b hb) λtk=>⟨.bl b,H,I.tok _,rfl,q⟩
 .obtain rfl:u=Value.ref a:=rx;exact tL g I ho (g.tab.sub i j b hb).1 q
def EE (g:Gd X G S k E)(n:String):cB X (.builtin "isinstance") (λvs H Q=>∃ x,vs=[x,.ty n]/\kS G (.ty n) x H Q):=by
 intro Y s U H xs us Q I r h;obtain⟨x,rfl,h⟩:=h;obtain⟨u,w',rfl,rx,rT⟩:=vals2 r;obtain rfl:w'=Value.type n:=rT;unfold kS at h;rcases h with⟨t,b,ht,hb,q⟩|⟨a,i,b,rfl,ho,hb,q⟩
 .exact gL I rx (lI ht) (g.tab.subB t n b hb) λtk=>⟨.bl b,H,I.tok _,rfl,q⟩
 .obtain rfl:u=Value.ref a:=rx;exact tL g I ho (g.tab.subT i n b hb) q
def Bp {n:String}(h:jc.contains n=true):bootBuiltins (n:Str)=some (.type n):=by
 have h':n ∈ jc:=by simpa using h
 simp only[jc,li,not_mem_nil,or_false]at h';rcases h' with rfl|rfl|rfl|rfl|rfl|rfl|rfl<;>decide+kernel
abbrev JM (G:Gx):Cl->V
 | .own c=>.ref (G.R.cad c)
 | .ty n=>.ty n
def Fz (g:Gd X G S k E){c:Cl}(h:zu S c e=true):PE X e (tC (JM G c)):=by
 unfold zu at h
 split at h
 .simp only[lw,decide_eq_true_eq]at h;obtain⟨hg,hd⟩:=g.glob h.1;exact sW hg (g.tab.gcl _ _ (g.hT▸h.2)) rfl hd
 .simp only[lw,decide_eq_true_eq]at h;obtain⟨⟨⟨h1,rfl⟩,h3⟩,h4⟩:=h;obtain⟨hg,hd⟩:=g.glob h1;obtain⟨hm,hn⟩:=g.tab.gbl _ (g.hT▸h3);exact zF hg hm (Bp h4) rfl hn hd
 .cases h
def Ef (g:Gd X G S k E)(c:Cl):cB X (.builtin "isinstance") (λvs H Q=>∃ x,vs=[x,JM G c]/\kS G c x H Q):=by
 cases c with
 |own j=>exact As g j
 |ty n=>exact EE g n
abbrev w4:Bf->Value
 | .len=>.builtin "len"| .list=>.type "list"| .tuple=>.type "tuple"| .int=>.type "int"| .str=>.type "str"| .min=>.builtin "min"| .max=>.builtin "max"| .abs=>.builtin "abs"| .all=>.builtin "all"| .any=>.builtin "any"| .dict=>.type "dict"| .sum=>.builtin "sum"
def zM (b:Bf):bootBuiltins (vS b:Str)=some (w4 b):=by cases b<;>decide+kernel
def tM:∀ {bs:List Bool}{us:List Value},Vals (bs.map V.bl) us->PyProof.Rows.LSm.BoolsAre us bs
 | [],_,h=>by cases h;exact .nil
 |b::bs,_,h=>by
  cases h with
  |cons r1 r2=>
   obtain rfl:_=Value.bool b:=r1;exact .cons b (tM r2)
def uK (hc:X.calm=true):cB X (.builtin "all") (λxs H Q=>∃ p,∃ bs:List Bool,xs=[.ref p]/\aY X.K H p (bs.map V.bl)/\Q (.bl (bs.all id)) H):=by
 intro Y s U H xs us Q I r h;obtain⟨p,bs,rfl,hq,q⟩:=h;obtain⟨u,rfl,rx⟩:=vals1 r;cases rx;obtain⟨its,r',pl,hz⟩:=I.list hq;have hb:=tM r';have hl:=pl.isList;have lt:p<s.heap.objs.size:=by obtain⟨_,e,_⟩:=hl;exact sK e
 refine call_all_walk (wpAny_pyIter_list hl ⟨s.heap.objs.size,[s.heap.objs.size,p],[s.heap.objs.size],its.toArray.size,_,_,λi=>(bs[i]?).getD true,rfl,
  Walks.list (A:=X.A.in1) (I.ok.hd hc) _ p (ol lt) its.toArray,⟨⟨_,tz _ rfl,rfl,rfl⟩,hl.push _⟩,λi v s' Q' E' hP hQ=>?_,λh' tk hk=>?_⟩)
 .obtain⟨b,e,rfl⟩:=hb.get i v (by simpa using hP);have hQ:Q' ((bs[i]?).getD _) s':=hQ;rw[e]at hQ;exact bi hQ
 .have e:((List.range its.toArray.size).all λi=>(bs[i]?).getD true)=bs.all id:=by
   rw[ge,hb.length,PyProof.Rows.LSm.range_all]
  rw[e];exact⟨.bl _,H,I.kept (PyProof.Rows.LSm.kept_iter hk),rfl,q⟩
def mP:cB X (.type "dict") (λvs H Q=>∃ p kvs,vs=[.ref p]/\H p=some (.dK kvs)/\∀ l,H l=none->Q (.ref l) (upd H l (.dK kvs))):=by
 intro Y s U H xs us Q I r h;obtain⟨p,kvs,rfl,hp,q⟩:=h;obtain⟨u,rfl,rx⟩:=vals1 r;cases rx;exact yq I (.inl hp) λl s' hl J=>⟨.ref l,_,J,rfl,q l hl⟩
def FF (g:Gd X G S k E)(b:Bf):cB X (w4 b) (kG G b):=by
 intro Y s U H xs us Q I r h;unfold kG at h;rw[g.hK]at h;cases b with
 |len=>exact vj Y s U H _ us Q I r h
 |list=>
  rcases h with h|⟨hc,p,kvs,rfl,hp,q⟩
  .exact mq Y s U H _ us Q I r h
  .obtain⟨u,rfl,ru⟩:=vals1 r;cases ru;exact qF (g.cm hc) I hp q
 |tuple=>exact kJ Y s U H _ us Q I r h
 |int=>exact uJ Y s U H _ us Q I r h
 |str=>
  rcases h with h|⟨z,rfl,q⟩
  .exact mN Y s U H _ us Q I r h
  .obtain⟨u,rfl,t,rfl⟩:=vals1 r;exact PySem.P.str_of_str ⟨.str z,H,I,⟨_,rfl⟩,q⟩
 |min=>
  rcases h with⟨hc,h|h⟩
  .exact ub (g.cm hc) Y s U H _ us Q I r h
  .exact h.elim
 |max=>exact h.elim
 |abs=>exact h.elim
 |all=>exact uK (g.cm h.1) Y s U H _ us Q I r h.2
 |any=>exact h.elim
 |dict=>exact mP Y s U H _ us Q I r h
 |sum=>exact h.elim
abbrev DN:Lm->String
 | .append=>"list.append"| .extend=>"list.extend"| .insert=>"list.insert"| .pop=>"list.pop"| .clear=>"list.clear"| .reverse=>"list.reverse"| .count=>"list.count"
def rJ (m:Lm):Slot "list" (vY m:Str) (DN m):=by
 cases m
 .exact PySem.F.slot_list_append
 .exact PySem.F.slot_list_extend
 .exact PySem.F.slot_list_insert
 .exact PySem.F.slot_list_pop
 .exact PySem.F.slot_list_clear
 .exact PySem.F.slot_list_reverse
 .exact PySem.F.slot_list_count
def B5 (m:Lm):typeOf (.builtin (DN m))=pure (.type "method_descriptor"):=by cases m<;>rfl
abbrev Kf (m:Lm):V->List V->Hp->VK->Prop:=λx vs H Q=>∃ p xs,x=.ref p/\H p=some (.lst xs)/\Fs m p xs vs H Q
def B8 (m:Lm):HG X (DN m) (Kf m):=by
 intro Y s U H x vs v us Q I rx rv h;obtain⟨p,xs,rfl,hp,h⟩:=h;unfold Fs at h;cases m with
 |append=>
  obtain⟨y,rfl,h⟩:=h;exact gS Y s U H _ _ v us Q I rx rv ⟨p,xs,_,rfl,rfl,hp,Nat.lt_of_le_of_lt h.1 (by decide),h.2⟩
 |extend=>
  obtain⟨b,zs,rfl,hz,hl,q⟩:=h;exact uW Y s U H _ _ v us Q I rx rv ⟨p,_,xs,zs,rfl,rfl,hp,hz,lO nofun,q⟩
 |insert=>exact h.elim
 |pop=>exact h.elim
 |clear=>exact h.elim
 |reverse=>exact h.elim
 |count=>exact h.elim
def vU {m:Str}{apos pos:Pos}{ta:TE}{t:TA}{pl:Sem Bool}{n:Nat}(g:Gd X G S k E)(hc:G.cm=true)(he:PE X o ta)(ha:PA X es t)
  (hnil:es=[]->∀ U H R,t U H R->R [] H) (hst:∀ e r,es=e::r->bm es X.env=(false,eval e X.env)::bm r X.env) (hpl:∀ e r,es=e::r->(backTo pos (bm r X.env)).any (·.1)=false)
  (ht:eval (.Call (.Attribute o m apos) es [] pos) X.env=(do
   let ov <-eval o X.env
   standAt apos.atName
   let(f,first) <-holding [ov] (getMethod ov m pl)
   callWith pos f first (backTo pos (bm es X.env)) (backToKw pos (keywordEach [] X.env)))):
  PE X (.Call (.Attribute o m apos) es [] pos) (λU H Q=>ta U H λx H1=>∃ p i dx fs f,x=.ref p/\H1 p=some (.ins (G.R.cad i) dx fs)/\fs.lookup m=none/\G.T.me.lookup (i,m)=some f/\
   t U H1 λvs H2=>G.Ψ f (x::(vs++dflt G f n)) H2 Q (E U)):=by
 intro Y s U H Q I h;refine W.methodCall_KW (pl:=pl) (aw (he Y s U H _ I h) λu s1 ⟨x,H1,I1,rx,a,i,dx,fs,f,ex,ea,l,hf,q⟩=>?_) ht;subst ex;obtain rfl:u=Value.ref a:=rx;obtain⟨c,hm,d,hd⟩:=g.tab.me i m f hf;obtain⟨fd,F,B⟩:=(g.fns f d hd).fact;have hr:bI k X.A:=(g.room hc).mono (Nat.le_succ _);obtain⟨ds,hb,hv⟩:∃ ds,Binds X.K fd d.ps ds/\Vals (dflt G f n) ds:=by
  unfold dflt;rw[hd];exact B _
 refine qJ I1 ea c hm l ?_;cases es with
 |nil=>
  refine W.callWith_K0 (first:=[.ref a]) I1.bO hm.kp ?_;exact l8 (us:=[.ref a]) (vs:=[.ref a]) F hr hb hv g.pass I1 (.cons rfl .nil) (hnil rfl _ _ _ q)
 |cons e r=>
  refine W.callWith_K (first:=[.ref a]) (h₀:=X.base) I.ok.mod.kin hm.kp (aw (ha pos Y s1 U H1 _ I1 q) λus s2 ⟨vs,H2,I2,r,q2⟩=>⟨I2.bO,?_⟩) (hst e r rfl) (hpl e r rfl);exact l8 (us:=.ref a::us) (vs:=.ref a::vs) F hr hb hv g.pass I2 (.cons rfl r) q2
end
def BO {α β:Type}{f:α->Option β}:∀ {l:List α}{j:Nat}{y:β},(∀ a ∈ l,(f a).isSome=true)->(l.filterMap f)[j]? =some y->∃ a,l[j]? =some a/\f a=some y
 | [],_,_,_,h=>by simp at h
 |a::l,j,y,hs,h=>by
  obtain⟨b,hb⟩:=Option.isSome_iff_exists.mp (hs a lf);rw[filterMap_cons,hb]at h;cases j with
  |zero=>simp at h;exact⟨a,rfl,by rw[hb,h]⟩
  |succ j=>
   simp at h;obtain⟨a',h1,h2⟩:=BO (λa ha=>hs a (dl _ ha)) h;exact⟨a',by simpa using h1,h2⟩
def xq {α β:Type}{f:α->Option β}:∀ {l:List α},(∀ a ∈ l,(f a).isSome=true)->(l.filterMap f).length=l.length
 | [],_=>rfl
 |a::l,hs=>by
  obtain⟨b,hb⟩:=Option.isSome_iff_exists.mp (hs a lf);rw[filterMap_cons,hb];simp[xq (λa ha=>hs a (dl _ ha))]
abbrev jC (env:Env):Str×NameKind->List (Str×Addr)->Sem (ForInStep (List (Str×Addr))):=λnk r=>do
 let cs:=r
 if(nk.2 ==NameKind.free)=true then do
  let a <-cellOf env nk.1
  pure (ForInStep.yield ((nk.1,a)::cs))
 else pure (ForInStep.yield cs)
def mr {env:Env}:∀ (names:List (Str×NameKind)) (cs:List (Str×Addr)),(∀ y ∈ names,y.2=.free->∃ c,env.cells.lookup y.1=some c)->
  ∃ cl,(forIn names cs (jC env):Sem _)=pure cl/\(∀ y c,cl.lookup y=some c->cs.lookup y=some c\/env.cells.lookup y=some c)/\(∀ y,(cs.lookup y).isSome=true->(cl.lookup y).isSome=true)/\∀ y ∈ names,y.2=.free->(cl.lookup y.1).isSome=true
 | [],cs,_=>⟨cs,rfl,λy c h=>.inl h,λy h=>h,λy hy=>absurd hy (by simp)⟩
 |(n,kd)::r,cs,h=>by
  by_cases hk:kd=.free
  .subst hk;obtain⟨c,hc⟩:=h (n,.free) lf rfl;obtain⟨cl,h1,h2,h3,h4⟩:=mr r ((n,c)::cs) λy hy=>h y (dl _ hy)
   have self:(((n,c)::cs).lookup n).isSome=true:=by simp[lookup_cons]
   refine⟨cl,?_,λy d q=>?_,λy q=>h3 y ?_,λy hy hf=>?_⟩
   .rw[forIn_cons];have e:jC env (n,.free) cs=pure (ForInStep.yield ((n,c)::cs)):=by
     unfold jC;simp only[cellOf,hc]
     rfl
    rw[e];exact h1
   .rcases h2 y d q with q|q
    .rw[lookup_cons]at q
     by_cases e:y=n
     .subst e;simp at q;subst q;exact .inr hc
     .rw[show(y ==n)=false from beq_eq_false_iff_ne.mpr e]at q;exact .inl q
    .exact .inr q
   .rw[lookup_cons];cases(y ==n)<;>simp[q]
   .rcases li.mp hy with rfl|hy
    .exact h3 _ self
    .exact h4 y hy hf
  .obtain⟨cl,h1,h2,h3,h4⟩:=mr r cs λy hy=>h y (dl _ hy)
   refine⟨cl,?_,h2,h3,λy hy hf=>?_⟩
   .rw[forIn_cons];have e:jC env (n,kd) cs=pure (ForInStep.yield cs):=by
     unfold jC;cases kd<;>first|rfl|exact absurd rfl hk
    rw[e];exact h1
   .rcases li.mp hy with rfl|hy
    .exact absurd hf hk
    .exact h4 y hy hf
variable {scope:Scope}
def AD {env:Env}(h:∀ y ∈ scope.names,y.2=.free->∃ c,env.cells.lookup y.1=some c):
  ∃ cl,closureFor scope env=pure cl/\(∀ y c,cl.lookup y=some c->env.cells.lookup y=some c)/\∀ y ∈ scope.names,y.2=.free->(cl.lookup y.1).isSome=true:=by
 obtain⟨cl,h1,h2,_,h4⟩:=mr scope.names [] h;refine⟨cl,?_,λy c q=>(h2 y c q).resolve_left (by simp),h4⟩;have e:closureFor scope env=(forIn scope.names [] (jC env) >>= λcs=>pure cs):=by
  unfold closureFor jC
  rfl
 rw[e,h1]
 rfl
variable {xs:List Str}{sel:List Nat}
section
variable {X:Cx}{G:Gx}{S:Sn}{k:Nat}{E:St->XK}
def nY (g:Gd X G S k E)(scope:Scope):relabel scope X.env=eI S.sc scope:=by
 unfold relabel eI Env.kindOf;rw[g.sc]
def c4 (g:Gd X G S k E)(ok:X.Ok)(h:gU S scope xs sel=true):∃ cl,bc X scope cl xs (sel.filterMap λi=>S.N[i]?) sel:=by
 unfold gU at h;simp only[lw,decide_eq_true_eq,all_eq_true,Bool.or_eq_true,bne_iff_ne,ne_eq]at h;obtain⟨⟨⟨⟨⟨h1,h2⟩,h3⟩,h4⟩,h5⟩,h6⟩:=h;have hs:∀ i ∈ sel,(S.N[i]?).isSome=true:=λi hi=>by
  have:=h5 i hi
  split at this
  .rename_i e;rw[e];rfl
  .cases this
 obtain⟨cl,c1,c2,c3⟩:=AD (env:=X.env) (scope:=scope) λy hy hf=>ok.has y.1 (.inl (by
  show X.env.scope.names.lookup y.1=_;rw[g.sc];exact((h3 y hy).2).resolve_left λz=>z hf))
 refine⟨cl,⟨c1,c2,λy hy=>?_,h1,λy hy=>(h3 y hy).1.1,λy hy hl=>((h3 y hy).1.2).resolve_left λz=>z hl,h4,(xq hs).symm,λj y hj=>?_,h6⟩⟩
 .have:∃ kd,(y,kd) ∈ scope.names/\kd=.free:=by
   rcases hy with hy|hy
   .obtain⟨kd,m,q⟩:=c7 hy;rcases q with q|q
    .subst q;exact absurd rfl (h3 _ m).1.1
    .exact⟨kd,m,q.1⟩
   .obtain⟨kd,m,q⟩:=c7 hy;rcases q with q|q
    .exact⟨kd,m,q.symm⟩
    .exact nomatch q.2
  obtain⟨kd,m,rfl⟩:=this;exact Option.isSome_iff_exists.mp (c3 _ m rfl)
 .obtain⟨i,hi,hn⟩:=BO hs hj;have q:=h5 i (cr hi);rw[hn]at q;simp only[lw,decide_eq_true_eq]at q;refine⟨i,hi,by rw[g.N];exact hn,by rw[g.sc];exact q.1,by rw[nY g];exact q.2⟩
def Gd.comp (g:Gd X G S k E){cl:List (Str×Addr)}(C:bc X scope cl xs (sel.filterMap λi=>S.N[i]?) sel) (s:Shared) (H:Hp) (fp:List Addr):
  Gd (eK X scope cl (xs++sel.filterMap λi=>S.N[i]?) s H fp) G { S with sc:=eI S.sc scope,N:=xs++sel.filterMap λi=>S.N[i]? } k (λ_ _ _=>False) where
 hK:=g.hK
 hT:=g.hT
 sc:=nY g scope
 N:=rfl
 nd:=C.nd
 pass:=λY U H s e s' I h=>by
  obtain⟨e,H',C,dx,fs,T,_,_,_,_,_,_,_,_,_,q⟩:=h;exact q.elim
 cm:=g.cm
 room:=g.room
 un:=g.un
 tab:=g.tab
 fns:=g.fns
def nN (env:Env):∀ {is:List Nat}{ts:List Expr},wm S is ts=true->(assignEach ts env).length=is.length/\(assignEach ts env).findIdx? (·.1)=none
 | [],[],_=>⟨rfl,rfl⟩
 | [],_::_,h=>by simp[wm]at h
 |_::_,[],h=>by simp[wm]at h
 |i::is,t::ts,h=>by
  cases t<;>simp[wm]at h
  rename_i x p;obtain⟨h1,h2⟩:=nN env h.2;have e:assignEach (.Name x p::ts) env=(false,assign (.Name x p) env)::assignEach ts env:=rfl;rw[e];refine⟨by simp[h1],?_⟩;rw[List.findIdx?_cons];simp[h2]
def tj (g:Gd X G S k E):∀ {is:List Nat}{ts:List Expr},wm S is ts=true->Dz X ts (gl is)
 | [],[],_=>λY s U H vs us Q I r h=>mY Y s U H vs us Q I r ⟨length_eq_zero_iff.mp h.1,by
   have:=h.2;have e:vs=[]:=length_eq_zero_iff.mp h.1;subst e;exact this⟩
 | [],_::_,h=>by simp[wm]at h
 |_::_,[],h=>by simp[wm]at h
 |i::is,t::ts,h=>by
  cases t<;>simp[wm]at h
  rename_i x p;have hl:X.env.scope.names.lookup x=some .local:=by rw[g.sc];exact h.1.2
  have h1:PG X (.Name x p) (gA i):=fR (by rw[g.N];exact g.nd) (by rw[g.N];exact h.1.1) (.inl hl) (.inr hl);have h2:=tj g h.2;intro Y s U H vs us Q I r q;refine f7 h1 h2 rfl Y s U H vs us Q I r ?_;obtain⟨hl,q⟩:=q;cases vs with
  |nil=>simp at hl
  |cons v vs=>exact⟨v,vs,rfl,by simpa using hl,q⟩
def Az (g:Gd X G S k E)(hc:G.cm=true){n kt:Nat}{ts:List Expr}{pt:Pos}(h:wm S (List.range n) ts=true):PG X (.Tuple ts kt pt) (yM G.R.K n (gl (List.range n))):=by
 obtain⟨e1,e2⟩:=nN X.env h;rw[List.length_range]at e1;rw[g.hK];exact nr (g.cm hc) (tj g h) e1 e2
def AJ {n:Nat}(h:xs.length=n):ot xs=re n none:=by
 subst h;unfold ot;rw[List.map_const']
end
set_option maxHeartbeats 2000000
variable {r:List Expr}{p:Pos}{U:L2.St}{s1:Shared}{R:It->Hp->Prop}{keys:List (Option Expr)}
section
variable {G:Gx}{k:Nat}
def jq {o1 o2:CmpOp}{c:Expr}(h:cC c=true):lastMarks [o1,o2] [b,c]=false:=by
 show behindInMarks o2 c=false;exact cE h _
def qK {o1 o2 o3:CmpOp}{c d:Expr}(h:cC d=true):lastMarks [o1,o2,o3] [b,c,d]=false:=by
 show behindInMarks o3 d=false;exact cE h _
def vk {t:TE}(h:PE X (match r with| []=>b|_=>.BoolOp .And (b::r) p) t):PE X (.BoolOp .And (b::r) p) t:=by
 cases r with
 |nil=>exact yo h
 |cons c r=>exact h
def vB {t:TE}(h:PE X (match r with| []=>b|_=>.BoolOp .Or (b::r) p) t):PE X (.BoolOp .Or (b::r) p) t:=by
 cases r with
 |nil=>exact yo h
 |cons c r=>exact h
def BL {op:BoolOp}(h:PT X (.BoolOp op l p) t):PW X (.BoolOp op l p) t:=λwhole Y s U H Q I q=>by
 have:=h Y s U H Q I q;exact this
def v8 (h:PT X (match r with| []=>b|_=>.BoolOp .And (b::r) p) t):PW X (.BoolOp .And (b::r) p) t:=by
 cases r with
 |nil=>exact A0 h
 |cons c r=>exact BL h
def xg (h:PT X (match r with| []=>b|_=>.BoolOp .Or (b::r) p) t):PW X (.BoolOp .Or (b::r) p) t:=by
 cases r with
 |nil=>exact EK h
 |cons c r=>exact BL h
def Ba:Hv X (unaryOp .USub) (λx H Q=>match x with| .int i=>Q (.int (-i)) H|_=>False):=by
 intro Y s U H x v Q I r h
 split at h
 .exact(L2.C4 Y s U H _ v Q I r ⟨_,rfl,h⟩)
 .exact h.elim
def uz {CX:rK}{C f:Addr}{fd:FuncData}{ps:List Str}{sp:Sp}{dvs:List V}{ds:List Value}{E:St->XK}{pos:Pos}(M:Hu X.K C f)(F:cM X.prog X.w X.K X.mg X.base CX k f fd ps sp)(hr:bI (k+1) X.A)(hg:Gl X x)(hm:X.mg x=some (.ref C))(hb:Binds X.K fd ps ds)(hd:Vals dvs ds)(hx:Passes CX X E)
  (hdb:(x ==("__debug__":Str))=false):PE X (.Call (.Name x p) [] [] pos) (xy C sp dvs E Bq):=by
 intro Y s U H Q I h;refine bv (bw I hg hm ?_ hdb);exact W.callWith_K0 I.bO M.kp (la (us:=[]) M F hr hb hd hx (Nat.zero_le _) I .nil h.2)
def cy.bS {f:Value->Value->Sem Value}{r:R2}(h:cy X f r):cy X f (λx y H R=>∃ Q,r x y H Q/\∀ z H1,Q z H1->R z H1):=λY s U H x y v u R I rx ry ⟨Q,q,i⟩=>
 aw (h Y s U H x y v u Q I rx ry q) λ_ _ ⟨v,H',J,r,z⟩=>⟨v,H',J,r,i _ _ z⟩
section
open PyProof.Rows
def t8 {tg:Expr}{H1:Hp}{v:Value}{xs:List V}(I1:Inv X Y U H1 s1)(r:RelV (.ref a) v)(hq:aY X.K H1 a xs)(q:R (EZ X.K a) H1):
  wpAny (model X.prog X.w) X.A (pyIter v) (G7 X Y U tg R) X.xe s1:=by
 cases r;obtain⟨its,rv,p,hz⟩:=I1.list hq;refine wpAny_pyIter_list p.isList ?_;refine⟨s1.heap.objs.size,[s1.heap.objs.size],_,_,H1,rfl,I1.kept (t':=s1.toks) λb o e=>sw _ e,u5 a _,⟨_,tz _ rfl,rfl,rfl⟩,λb hb=>?_,q⟩;have e:b=s1.heap.objs.size:=by simpa using hb
 subst e;exact I1.uS (pc _) (I1.hok.fresh (pc _))
def vP {tg:Expr}{H1:Hp}{v:Value}{xs:List V}(I1:Inv X Y U H1 s1)(r:RelV (.ref a) v)(hq:aZ X.K H1 a xs)(q:R (F8 X.K a) H1):
  wpAny (model X.prog X.w) X.A (pyIter v) (G7 X Y U tg R) X.xe s1:=by
 cases r;obtain⟨its,rv,p,hz⟩:=I1.tuple hq;refine wpAny_pyIter_tuple (show s1.heap.IsTuple a its.toArray from p) ?_;refine⟨s1.heap.objs.size,[s1.heap.objs.size],_,_,H1,rfl,I1.kept (t':=s1.toks) λb o e=>sw _ e,p6 a _,⟨_,tz _ rfl,rfl,rfl⟩,λb hb=>?_,q⟩;have e:b=s1.heap.objs.size:=by simpa using hb
 subst e;exact I1.uS (pc _) (I1.hok.fresh (pc _))
end
def C8 {x:V}{Q:Bool->Hp->Prop}(h:EC K x H Q):∃ k,Ad K x H k/\Q k H:=by
 unfold EC at h
 split at h
 .exact⟨_,rfl,h⟩
 .exact h
abbrev HL:List Str->List V->List (V×V)
 |k::ks,x::xs=>(.str k,x)::HL ks xs
 |_,_=>[]
def vm:∀ {ks:List Str}{xs:List V},HL ks xs=(EW ks xs).map (λkv=>(kV kv.1,kv.2))
 | [],_=>rfl
 |_::_,[]=>rfl
 |k::ks,x::xs=>by
  show(V.str k,x)::HL ks xs=(kV (.inr k),x)::(EW ks xs).map _;rw[vm]
  rfl
def sL:∀ {ks:List Str}{xs:List V},(EW ks xs).length<=ks.length
 | [],_=>pc _
 |_::_,[]=>Nat.zero_le _
 |k::ks,x::xs=>Nat.succ_le_succ sL
def gK {k:Str}{ks:List Str}(h:ng (k::ks) keys=true):∃ j p r,keys=some (.Constant (.str k) j p)::r/\ng ks r=true:=by
 unfold ng at h
 split at h
 .rename_i e;cases e
 .rename_i k' ks' x j p r e
  injection e with e1 e2
  subst e1 e2;simp only[lw,decide_eq_true_eq]at h;obtain⟨rfl,h⟩:=h;exact⟨_,_,_,rfl,h⟩
 .cases h
def js (h:ng [] keys=true):keys=[]:=by
 cases keys with
 |nil=>rfl
 |cons a r=>cases(show false=true from h)
def nI:∀ {ks:List Str}{keys:List (Option Expr)},ng ks keys=true->keys.length=ks.length
 | [],keys,h=>by rw[js h];rfl
 |k::ks,keys,h=>by
  obtain⟨j,p,r,rfl,h2⟩:=gK h;rw[length_cons,length_cons,nI h2]
def pW:∀ {ks:List Str}{keys:List (Option Expr)},ng ks keys=true->keys.all (·.isSome)=true
 | [],keys,h=>by rw[js h];rfl
 |k::ks,keys,h=>by
  obtain⟨j,p,r,rfl,h2⟩:=gK h;rw[all_cons,pW h2]
  rfl
def xp {S:Sn}:∀ {x:ft}{e:List Expr},iT S x e=true->e.length=x.len
 | .nil,[],_=>rfl
 | .nil,_::_,h=>by cases(show false=true from h)
 | .cons x xs,[],h=>by cases(show false=true from h)
 | .cons x xs,e::es,h=>by
  have h:(mE S x e&&notStar e&&iT S xs es)=true:=h;simp only[lw]at h;exact congrArg Nat.succ (xp h.2)
mutual
theorem sE:∀ (x:Ex){X:Cx}{S:Sn}{E:St->XK},Gd X G S k E->∀ {e:Expr},mE S x e=true->PE X e (λU H Q=>wE G x U H Q (E U))
 | .v i,X,S,E,g,e,h=>by
  sleep 1
  simp only[lw,decide_eq_true_eq]at h;obtain⟨h1,h2⟩:=h;obtain⟨v1,v2,v3⟩:=g.CH h2;refine PE.imp (CZ (i:=i) (by rw[g.N];exact h1) v1 v2 v3) λU H Q q=>?_
  conv at q=>whnf
  split at q
  .rename_i e;exact⟨_,e,q⟩
  .exact q.elim
 | .int i,X,S,E,g,e,h=>by
  sleep 2
  simp only[decide_eq_true_eq]at h;subst h;exact DP
 | .bl i,X,S,E,g,e,h=>by
  sleep 2
  simp only[decide_eq_true_eq]at h;subst h;exact G8
 | .non,X,S,E,g,e,h=>by
  sleep 2
  exact D9
 | .str i,X,S,E,g,e,h=>by
  sleep 2
  simp only[decide_eq_true_eq]at h;subst h;exact v5
 | .gl x,X,S,E,g,e,h=>by
  sleep 1
  simp only[lw,decide_eq_true_eq]at h;obtain⟨rfl,h2⟩:=h;obtain⟨hg,hd⟩:=g.glob h2;intro Y s U H Q I q
  conv at q=>whnf
  split at q
  .rename_i v e;obtain⟨u,hm,r⟩:=g.tab.gl _ v e;exact sW hg hm r hd Y s U H Q I q
  .exact q.elim
 | .bin op a b,X,S,E,g,e,h=>by
  sleep 1
  simp only[lw,decide_eq_true_eq]at h;obtain⟨⟨rfl,ha⟩,hb⟩:=h;exact Fo (g.bin op) (sE a g ha) (sE b g hb)
 | .neg a,X,S,E,g,e,h=>by
  sleep 2
  exact Ge Ba (sE a g h)
 | .not a,X,S,E,g,e,h=>by
  sleep 2
  refine PE.imp (Dy (PE.bS (sE a g h))) λU H Q q=>⟨_,q,λx H1 z=>?_⟩
  split at z
  .exact⟨_,rfl,z⟩
  .exact z.elim
 | .and a b,X,S,E,g,e,h=>by
  sleep 3
  simp only[lw]at h;refine PE.imp (C6 (PE.bS (sE a g h.1)) (vk (sE b g h.2))) λU H Q q=>⟨_,q,λx H1 z=>?_⟩
  split at z
  .rw[cx]at z;exact⟨_,rfl,z⟩
  .exact z.elim
 | .or a b,X,S,E,g,e,h=>by
  sleep 3
  simp only[lw]at h;refine PE.imp (Fq (PE.bS (sE a g h.1)) (vB (sE b g h.2))) λU H Q q=>⟨_,q,λx H1 z=>?_⟩
  split at z
  .rw[cx]at z;exact⟨_,rfl,z⟩
  .exact z.elim
 | .cmp op a b,X,S,E,g,e,h=>by
  sleep 3
  simp only[lw,decide_eq_true_eq]at h;obtain⟨⟨⟨rfl,ha⟩,hb⟩,hn⟩:=h;exact zZ (g.cmp op) (sE a g ha) (sE b g hb) (cE hn _)
 | .cmp2 o1 o2 a b c,X,S,E,g,e,h=>by
  sleep 3
  simp only[lw,decide_eq_true_eq]at h;obtain⟨⟨⟨⟨⟨rfl,rfl⟩,ha⟩,hb⟩,hc⟩,hn⟩:=h;refine PE.imp (xV (cy.bS (g.cmp o1)) (g.cmp o2) (PE.bS (sE a g ha)) (PE.bS (sE b g hb)) (sE c g hc) (jq hn)) λU H Q q=>⟨_,q,λx H1 q1=>⟨_,q1,λy H2 q2=>⟨_,q2,λz H3 q3=>?_⟩⟩⟩
  split at q3
  .rw[cx]at q3;exact⟨_,rfl,q3⟩
  .exact q3.elim
 | .cmp3 o1 o2 o3 a b c d,X,S,E,g,e,h=>by
  sleep 3
  simp only[lw,decide_eq_true_eq]at h;obtain⟨⟨⟨⟨⟨⟨⟨rfl,rfl⟩,rfl⟩,ha⟩,hb⟩,hc⟩,hd⟩,hn⟩:=h;refine PE.imp (uw (cy.bS (g.cmp o1)) (cy.bS (g.cmp o2)) (g.cmp o3) (PE.bS (sE a g ha)) (PE.bS (sE b g hb)) (PE.bS (sE c g hc)) (sE d g hd) (qK hn)) λU H Q q=>⟨_,q,λx H1 q1=>⟨_,q1,λy H2 q2=>⟨_,q2,λz H3 q3=>?_⟩⟩⟩
  split at q3
  .refine⟨_,rfl,?_⟩;rw[cx]at q3
   split at q3
   .rename_i hk;rw[if_pos hk];refine⟨_,q3,λw H4 q4=>⟨_,q4,λz' H5 q5=>?_⟩⟩
    split at q5
    .rw[cx]at q5;exact⟨_,rfl,q5⟩
    .exact q5.elim
   .rename_i hk;rw[if_neg hk];exact q3
  .exact q3.elim
 | .ife c a b,X,S,E,g,e,h=>by
  sleep 1
  simp only[lw]at h;exact PE.imp (vh (PT.bS (sT c g h.1.1)) (sE a g h.1.2) (sE b g h.2)) λU H Q q=>⟨_,q,λk H1 z=>by rwa [cx]at z⟩
 | .tup es,X,S,E,g,e,h=>by
  sleep 1
  refine PE.imp (CT (PA.bS (sZ es g h))) λU H Q q=>⟨_,q,λx H1 z=>by unfold nv at z;exact⟨lO (by have:=z.1;omega),z.2⟩⟩
 | .lst es,X,S,E,g,e,h=>by
  sleep 1
  refine PE.imp (D8 (PA.bS (sZ es g h))) λU H Q q=>⟨_,q,λx H1 z=>by unfold A9 at z;exact⟨lO (by have:=z.1;omega),z.2⟩⟩
 | .ix a i,X,S,E,g,e,h=>by
  sleep 1
  simp only[lw]at h;have hr:FW X (oE G.R.K):=g.hK▸qV g.un;exact FH hr (sE a g h.1.1) (sE i g h.1.2) (rf h.2)
 | .sl a lo hi,X,S,E,g,e,h=>by
  sleep 3
  simp only[lw]at h;have hr:HE X (EU G.R.K):=g.hK▸EL;exact xD hr (sE a g h.1.1) (sO lo g h.1.2) (sO hi g h.2)
 | .fld a f,X,S,E,g,e,h=>by
  sleep 1
  simp only[lw,decide_eq_true_eq]at h;obtain⟨⟨ha,rfl⟩,hn⟩:=h;intro Y s U H Q I q;have q':wE G a U H (λx H1=>qX G f x H1 Q) (E U):=q;refine Ac (bQ hn _ _ _) (aw (sE a g ha Y s U H _ I q') λu s1 ⟨x,H1,I1,rx,qf⟩=>?_);unfold qX at qf;obtain⟨a,i,fs,v,ex,ea,hna,l,q⟩:=qf;subst ex;obtain rfl:u=Value.ref a:=rx;have n:=g.tab.na i f hna;rcases ea with⟨ho,dx,ea⟩|⟨ho,dx,fr,ea⟩
  .exact qh I1 ea (g.tab.oc i ho).1 n l λu' s' J rv=>⟨v,H1,J,rv,q⟩
  .exact uT I1 ea (g.tab.xc i ho).1 n l λu' s' J rv=>⟨v,H1,J,rv,q⟩
 | .call f es,X,S,E,g,e,h=>by
  sleep 3
  rename_i es' pos _ xn p1 _;simp only[lw,decide_eq_true_eq]at h;obtain⟨⟨h1,h2⟩,h3⟩:=h;obtain⟨hg,hdb⟩:=g.glob h1;obtain⟨hm,hk,d,hd⟩:=g.tab.gfn _ _ (g.hT▸h2);obtain⟨fd,F,B⟩:=(g.fns f d hd).fact;obtain⟨ds,hb,hv⟩:∃ ds,Binds X.K fd d.ps ds/\Vals (dflt G f es.len) ds:=by
   unfold dflt;rw[hd];exact B _
  intro Y s U H Q I q;obtain⟨hc,q⟩:=(show G.cm=true/\wEs G es U H (λvs H1=>G.Ψ f (vs++dflt G f es.len) H1 Q (E U)) (E U) from q);have hr:bI k X.A:=(g.room hc).mono (Nat.le_succ _);cases es' with
  |nil=>
   cases es with
   |nil=>exact wk F hr hg hm hk hb hv g.pass hdb Y s U H Q I q
   |cons _ _=>cases(show false=true from h3)
  |cons e0 er=>
   have PAs:=sZ es g h3;obtain⟨ns,x0,xr,rfl,h4⟩:=bj h3;exact Al F hr hg hm hk hb hv g.pass PAs hdb (ab ns) (aQ h4 _ _) Y s U H Q I q
 | .meth a m es,X,S,E,g,e,h=>by
  sleep 3
  rename_i es' pos _ a' m' apos _;simp only[lw,decide_eq_true_eq]at h;obtain⟨⟨⟨⟨⟨ha,rfl⟩,h3⟩,h4⟩,h5⟩,h6⟩:=h;intro Y s U H Q I q;obtain⟨hc,q⟩:=(show G.cm=true/\_ from q);refine vU (n:=es.len+1) g hc (sE a g ha) (sZ es g h3) (λz U H R hr=>?_) (λe r z=>?_) (λe r z=>?_) (ly h4 (sF h3 h6 _ _) h5) Y s U H Q I q
  .subst z;cases es with
   |nil=>exact hr
   |cons _ _=>cases(show false=true from h3)
  .subst z;exact ab (bj h3).1
  .subst z;have PAs:=sZ es g h3;obtain⟨ns,x0,xr,rfl,h4⟩:=bj h3;exact aQ h4 _ _
 | .lm m a es,X,S,E,g,e,h=>by
  sleep 3
  rename_i es' pos _ a' m' apos _;simp only[lw,decide_eq_true_eq]at h;obtain⟨⟨⟨⟨⟨ha,rfl⟩,h3⟩,h4⟩,h5⟩,h6⟩:=h;cases es' with
  |nil=>
   cases es with
   |nil=>exact PE.imp (El PySem.F.plainAttrs_list (rJ m) (B5 m) (B8 m) (PE.bS (sE a g ha)) (bQ h4 _ _ _) h5) λU H Q q=>⟨_,q,λx H1 z=>by
     obtain⟨p,xs0,ex,hp,q⟩:=z;subst ex;obtain⟨xs,h1,h2⟩:=q;exact⟨.inl ⟨rfl,xs0,aY.of hp⟩,p,xs,rfl,h1,h2⟩⟩
   |cons _ _=>cases(show false=true from h3)
  |cons e0 er=>
   have PAs:=sZ es g h3;obtain⟨ns,x0,xr,rfl,h7⟩:=bj h3;exact PE.imp (G3 PySem.F.plainAttrs_list (rJ m) (B5 m) (B8 m) (PE.bS (sE a g ha)) (PA.bS PAs) (bQ h4 _ _ _) (DV h3 h6 _ _) h5 (ab ns) (aQ h7 _ _)) λU H Q q=>⟨_,q,λx H1 z=>by
     obtain⟨p,xs0,ex,hp,q⟩:=z;subst ex;exact⟨.inl ⟨rfl,xs0,aY.of hp⟩,_,q,λvs H2 ⟨xs,h1,h2⟩=>⟨p,xs,rfl,h1,h2⟩⟩⟩
 | .dget a k d,X,S,E,g,e,h=>by cases(show false=true from h)
 | .rev a b,X,S,E,g,e,h=>by cases(show false=true from h)
 | .lix a b,X,S,E,g,e,h=>by cases(show false=true from h)
 | .make c es,X,S,E,g,e,h=>by
  sleep 3
  rename_i es' pos _ xn p1 _;simp only[lw,decide_eq_true_eq]at h;obtain⟨⟨h1,h2⟩,h3⟩:=h;obtain⟨hg,hdb⟩:=g.glob h1;have hm:=g.tab.gcl _ _ (g.hT▸h2);intro Y s U H Q I q
  conv at q=>whnf
  obtain⟨hc,q⟩:=q
  split at q
  .obtain⟨h0,q⟩:=q;cases es' with
   |nil=>
    cases es with
    |nil=>exact absurd q.1 (by decide)
    |cons _ _=>cases(show false=true from h3)
   |cons e0 er=>
    have PAs:=sZ es g h3;obtain⟨ns,x0,xr,rfl,h4⟩:=bj h3;exact xJ (g.tab.ini0 c h0) hg hm PAs hdb (ab ns) (aQ h4 _ _) Y s U H Q I q
  .rename_i f hf;obtain⟨⟨d,hd⟩,hmk⟩:=g.tab.ini c f hf;obtain⟨fd,F,B⟩:=(g.fns f d hd).fact;obtain⟨ds,hb,hv⟩:∃ ds,Binds X.K fd d.ps ds/\Vals (dflt G f (es.len+1)) ds:=by
    unfold dflt;rw[hd];exact B _
   have hr:=g.room hc
   split at q
   .rename_i hx;rw[if_pos hx]at hmk;cases es' with
    |nil=>
     cases es with
     |nil=>exact uz hmk F hr hg hm hb hv g.pass hdb Y s U H Q I q
     |cons _ _=>cases(show false=true from h3)
    |cons e0 er=>
     have PAs:=sZ es g h3;obtain⟨ns,x0,xr,rfl,h4⟩:=bj h3;exact yl hmk F hr hg hm hb hv g.pass PAs hdb (ab ns) (aQ h4 _ _) Y s U H Q I q
   .rename_i hx;rw[if_neg hx]at hmk;cases es' with
    |nil=>
     cases es with
     |nil=>exact yc hmk F hr hg hm hb hv g.pass hdb Y s U H Q I q
     |cons _ _=>cases(show false=true from h3)
    |cons e0 er=>
     have PAs:=sZ es g h3;obtain⟨ns,x0,xr,rfl,h4⟩:=bj h3;exact yO hmk F hr hg hm hb hv g.pass PAs hdb (ab ns) (aQ h4 _ _) Y s U H Q I q
 | .bini es,X,S,E,g,e,h=>by
  sleep 4
  rename_i es' pos _ mm p2 _ xn p1 _;simp only[lw,decide_eq_true_eq]at h;obtain⟨⟨⟨⟨⟨h1,rfl⟩,h2⟩,h3⟩,h4⟩,h5⟩:=h;obtain⟨hg,hdb⟩:=g.glob h1;obtain⟨B,hm,hB⟩:=g.tab.gbi _ (g.hT▸h2);cases es' with
  |nil=>
   cases es with
   |nil=>cases h4
   |cons _ _=>cases(show false=true from h3)
  |cons e0 er=>
   have PAs:=sZ es g h3;obtain⟨ns,x0,xr,rfl,h7⟩:=bj h3;refine PE.imp (DU hB hg hm (PA.bS PAs) hdb (ab ns) (aQ h7 _ _) (ly (o:=.Name _ _) rfl (sF h3 (by rw[h4];decide) _ _) h5)) λU H Q q=>⟨_,q,λvs H1 z=>?_⟩
   obtain⟨a,i,dx,fs,fr,v,ev,ea,hi,q⟩:=z;exact⟨a,_,dx,fs,fr,v,ev,ea,(g.tab.xc i hi).1,q⟩
 | .cini c es,X,S,E,g,e,h=>by cases(show false=true from h)
 | .bf b es,X,S,E,g,e,h=>by
  sleep 3
  rename_i es' pos _ xn p1 _;simp only[lw,decide_eq_true_eq]at h;obtain⟨⟨⟨⟨h1,rfl⟩,h2⟩,h3⟩,h4⟩:=h;obtain⟨hg,hdb⟩:=g.glob h1;obtain⟨hm,hn⟩:=g.tab.gbl _ (g.hT▸h2);cases es' with
  |nil=>
   cases es with
   |nil=>exact absurd h4 (by decide)
   |cons _ _=>cases(show false=true from h3)
  |cons e0 er=>
   have PAs:=sZ es g h3;obtain⟨ns,x0,xr,rfl,h7⟩:=bj h3;have hb:=zM b;have hk:=FF g b;have key:∀ {v:Value},w4 b=v->(∃ i,v=.builtin i)\/(∃ i,v=.type i):=by
    intro v hv;subst hv;cases b<;>first|exact .inl ⟨_,rfl⟩|exact .inr ⟨_,rfl⟩
   rcases key rfl with⟨i,hi⟩|⟨i,hi⟩
   .rw[hi]at hb hk;exact pH hk hg hm hb PAs hn hdb (ab ns) (aQ h7 _ _)
   .rw[hi]at hb hk;exact uL hk hg hm hb PAs hn hdb (ab ns) (aQ h7 _ _)
 | .isi a c,X,S,E,g,e,h=>by
  sleep 4
  rename_i pos _ xn p1 _ _ a' c';simp only[lw,decide_eq_true_eq]at h;obtain⟨⟨⟨⟨h1,rfl⟩,h2⟩,h3⟩,h4⟩:=h;obtain⟨hg,hdb⟩:=g.glob h1;obtain⟨hm,hn⟩:=g.tab.gbl _ (g.hT▸h2);have n1:notStar a'=true:=by
   cases a'<;>first|rfl|(cases a<;>cases(show false=true from h3))
  have n2:notStar c'=true:=by
   cases c'<;>first|rfl|(cases c<;>simp[zu]at h4)
  refine PE.imp (pH (Ef g c) hg hm DG (jo (PE.bS (sE a g h3)) (jo (Fz g h4) fg n2) n1) hn hdb (ab n1) ?_) λU H Q q=>⟨_,q,λx H1 z=>⟨x,rfl,z⟩⟩
  rw[ab n2]
  rfl
 | .lc elt sel it,X,S,E,g,e,h=>by
  sleep 2
  split at h
  iterate 3 (split at h;rotate_left;cases h)
  simp only[lw]at h;obtain⟨⟨⟨h1,h2⟩,h3⟩,h4⟩:=h;intro Y s U H Q I q;obtain⟨hc,q⟩:=(show G.cm=true/\wI G it U H (λJ H1=>yz (λσ' H' Q'=>wE G elt σ' H' Q' (λ_ _=>False)) J (none::ja U sel) H1 Q) (E U) from q);rw[xP]at q;obtain⟨cl,C⟩:=c4 g I.ok h1;exact wV (g.cm hc) C (sI it g h2) (λs H fp=>sE elt (g.comp C s H fp) h3) (cw h4 _) Y s U H Q I q
 | .lci elt c sel it,X,S,E,g,e,h=>by cases(show false=true from h)
 | .lct elt n sel it,X,S,E,g,e,h=>by cases(show false=true from h)
 | .lcu elt c n sel it,X,S,E,g,e,h=>by cases(show false=true from h)
 | .dnew,X,S,E,g,e,h=>by cases(show false=true from h)
 | .sm m a b,X,S,E,g,e,h=>by cases(show false=true from h)
 | .up a,X,S,E,g,e,h=>by cases(show false=true from h)
 | .isiT a cs,X,S,E,g,e,h=>by cases(show false=true from h)
 | .mk0 c,X,S,E,g,e,h=>by
  sleep 4
  simp only[lw,decide_eq_true_eq]at h;obtain⟨⟨h1,h2⟩,h3⟩:=h;obtain⟨hg,hdb⟩:=g.glob h1;refine PE.imp (wY (g.tab.inip c (g.hT▸h3)) hg (g.tab.gcl _ _ (g.hT▸h2)) hdb) λU H Q q=>?_
  have q':wo (G.R.cad c) H Q:=q;unfold wo at q';exact q'
 | .vals tp a,X,S,E,g,e,h=>by
  sleep 8
  simp only[lw,decide_eq_true_eq]at h;obtain⟨⟨⟨⟨⟨⟨h1,rfl⟩,h2⟩,h3⟩,rfl⟩,h4⟩,h5⟩:=h;obtain⟨hg,hdb⟩:=g.glob h1;obtain⟨hm,hn⟩:=g.tab.gbl _ (g.hT▸h2);intro Y s U H Q I q;obtain⟨hc,q⟩:=(show G.cm=true/\wE G a U H (λx H1=>pj tp x H1 Q) (E U) from q);refine zH tp (g.cm hc) hg hm (PE.bS (sE a g h3)) (bQ h4 _ _ _) h5 Y s U H Q I ⟨_,q,λx H1 z=>?_⟩;unfold pj at z;exact z
 | .disp ks es,X,S,E,g,e,h=>by
  sleep 1
  simp only[lw,decide_eq_true_eq]at h;obtain⟨⟨⟨⟨h1,h2⟩,h3⟩,h4⟩,h5⟩:=h;intro Y s U H Q I q;have hk:=nI h1;have hv:=xp h2;refine A8 (Jv es g h1 h2 h3) (pW h1) nofun (λz=>by rw[z]at hk;simp at hk;omega) nofun Y s U H Q I λp hp=>?_
  refine⟨_,q p hp,λxs H2 hl z=>?_⟩;unfold rM at z;exact⟨z.1,EW ks xs,vm,by have:=sL (ks:=ks) (xs:=xs);omega,z.2⟩
 | .dzip a b,X,S,E,g,e,h=>by
  sleep 8
  simp only[lw,decide_eq_true_eq]at h;obtain⟨⟨⟨⟨⟨⟨⟨⟨⟨h1,rfl⟩,h2⟩,h3⟩,rfl⟩,h4⟩,h5⟩,h6⟩,n1⟩,n2⟩:=h;obtain⟨hg,hdb⟩:=g.glob h1;obtain⟨hm,hn⟩:=g.tab.gbl _ (g.hT▸h2);obtain⟨hg',hdb'⟩:=g.glob h3;obtain⟨hm',hn'⟩:=g.tab.gbl _ (g.hT▸h4);intro Y s U H Q I q;obtain⟨hc,q⟩:=(show G.cm=true/\wE G a U H (λx H1=>wE G b U H1 (λy H2=>GI G.R.K x y H2 Q) (E U)) (E U) from q);refine AY (g.cm hc) hg hm hg' hm' (jo (PE.bS (sE a g h5)) (jo (PE.bS (sE b g h6)) fg n2) n1) (ab n1) (by rw[ab n2];rfl) Y s U H Q I ⟨_,q,λx H1 z=>⟨_,z,λy H2 z=>?_⟩⟩;unfold GI at z;exact⟨_,_,rfl,g.hK▸z⟩
termination_by structural x=>x
theorem sI:∀ (x:BI){X:Cx}{S:Sn}{E:St->XK},Gd X G S k E->∀ {t e:Expr},mI S x t e=true->PI X t e (λU H R=>wI G x U H R (E U))
 | .rng1 a,X,S,E,g,t,e,h=>by
  sleep 4
  simp only[lw,decide_eq_true_eq]at h;obtain⟨⟨⟨⟨h1,rfl⟩,h2⟩,h3⟩,n1⟩:=h;obtain⟨hg,hdb⟩:=g.glob h1;obtain⟨hm,hn⟩:=g.tab.gbl _ (g.hT▸h2);intro Y s U H R I q;refine tP hg hm (jo (PE.bS (sE a g h3)) fg n1) (ab n1) Y s U H R I ⟨_,q,λx H1 z=>?_⟩
  split at z
  .exact⟨_,rfl,z.1,z.2.1,z.2.2⟩
  .exact z.elim
 | .rng2 a b,X,S,E,g,t,e,h=>by
  sleep 4
  simp only[lw,decide_eq_true_eq]at h;obtain⟨⟨⟨⟨⟨⟨h1,rfl⟩,h2⟩,h3⟩,h4⟩,n1⟩,n2⟩:=h;obtain⟨hg,hdb⟩:=g.glob h1;obtain⟨hm,hn⟩:=g.tab.gbl _ (g.hT▸h2);intro Y s U H R I q;refine ue hg hm (jo (PE.bS (sE a g h3)) (jo (PE.bS (sE b g h4)) fg n2) n1) (by rw[ab n1,ab n2];rfl) (by rw[ab n2];rfl) Y s U H R I ⟨_,q,λx H1 z=>⟨_,z,λy H2 z=>?_⟩⟩
  split at z
  .exact⟨_,_,rfl,z.1,z.2⟩
  .exact z.elim
 | .rng3 a b c,X,S,E,g,t,e,h=>by cases(show false=true from h)
 | .enm a,X,S,E,g,t,e,h=>by
  sleep 4
  simp only[lw,decide_eq_true_eq]at h;obtain⟨⟨⟨⟨⟨h1,rfl⟩,h2⟩,h3⟩,n1⟩,h5⟩:=h;obtain⟨hg,hdb⟩:=g.glob h1;obtain⟨hm,hn⟩:=g.tab.gbl _ (g.hT▸h2)
  split at h5
  .intro Y s U H R I q;refine zG hg hm (jo (PE.bS (sE a g h3)) fg n1) (ab n1) Y s U H R I ⟨_,q,λx H1 z=>?_⟩
   split at z
   .unfold Ab at z;exact⟨_,rfl,z.1,z.2⟩
   .exact z.elim
  .cases h5
 | .enf a,X,S,E,g,t,e,h=>by cases(show false=true from h)
 | .seq a,X,S,E,g,t,e,h=>by
  conv at h=>lhs;whnf
  intro Y s U H R I q;have q':wE G a U H (λx H1=>match x with| .ref p=>qE G.R.K p H1 R| .str z=>R (E3 z) H1|_=>False) (E U):=q;rw[g.hK]at q';refine aw (sE a g h Y s U H _ I q') λv s1 ⟨x,H1,I1,r1,z⟩=>?_
  dsimp only at z
  split at z
  .unfold qE at z;rcases z with⟨⟨xs,hx⟩,z⟩|⟨⟨xs,hx⟩,z⟩|z
   .exact t8 I1 r1 hx z
   .exact vP I1 r1 hx z
   .exact z.elim
  .exact ym I1 r1 z
  .exact z.elim
 | .zip a b,X,S,E,g,t,e,h=>by
  sleep 4
  simp only[lw,decide_eq_true_eq]at h;obtain⟨⟨⟨⟨⟨⟨⟨h1,rfl⟩,h2⟩,h3⟩,h4⟩,n1⟩,n2⟩,h5⟩:=h;obtain⟨hg,hdb⟩:=g.glob h1;obtain⟨hm,hn⟩:=g.tab.gbl _ (g.hT▸h2)
  split at h5
  .intro Y s U H R I q;refine DL hg hm (jo (PE.bS (sE a g h3)) (jo (PE.bS (sE b g h4)) fg n2) n1) (ab n1) (by rw[ab n2];rfl) Y s U H R I ⟨_,q,λx H1 z=>⟨_,z,λy H2 z=>?_⟩⟩;unfold yV at z;exact⟨_,_,rfl,g.hK▸z⟩
  .cases h5
 | .zip3 a b c,X,S,E,g,t,e,h=>by cases(show false=true from h)
termination_by structural x=>x
theorem sO:∀ (x:HP){X:Cx}{S:Sn}{E:St->XK},Gd X G S k E->∀ {e:Option Expr},mO S x e=true->PO X e (λU H Q=>wO G x U H Q (E U))
 | .no,X,S,E,g,none,h=>Bo
 | .no,X,S,E,g,some _,h=>by cases(show false=true from h)
 | .yes x,X,S,E,g,none,h=>by cases(show false=true from h)
 | .yes x,X,S,E,g,some e,h=>by
  conv at h=>lhs;whnf
  intro Y s U H Q I q;refine Ax (PE.bS (sE x g h)) Y s U H Q I ⟨_,q,λy H1 z=>?_⟩
  split at z
  .exact⟨_,rfl,z⟩
  .exact z.elim
termination_by structural x=>x
theorem sT:∀ (x:Tx){X:Cx}{S:Sn}{E:St->XK},Gd X G S k E->∀ {e:Expr},mT S x e=true->PT X e (λU H Q=>wT G x U H Q (E U))
 | .not a,X,S,E,g,e,h=>by
  sleep 2
  exact Ea (sT a g h)
 | .and a b,X,S,E,g,e,h=>by
  sleep 3
  simp only[lw]at h;exact PT.imp (DJ (PT.bS (sT a g h.1)) (v8 (sT b g h.2))).pt λU H Q q=>⟨_,q,λk H1 z=>by rwa [cx]at z⟩
 | .or a b,X,S,E,g,e,h=>by
  sleep 3
  simp only[lw]at h;exact PT.imp (FJ (PT.bS (sT a g h.1)) (xg (sT b g h.2))).pt λU H Q q=>⟨_,q,λk H1 z=>by rwa [cx]at z⟩
 | .cmp op a b,X,S,E,g,e,h=>by
  sleep 3
  simp only[lw,decide_eq_true_eq]at h;obtain⟨⟨⟨rfl,ha⟩,hb⟩,hn⟩:=h;refine PT.imp (AU (cy.bS (g.cmp op)) (PE.bS (sE a g ha)) (PE.bS (sE b g hb)) (cE hn _)) λU H Q q=>⟨_,q,λx H1 q1=>⟨_,q1,λy H2 q2=>⟨_,q2,λz H3 q3=>?_⟩⟩⟩
  split at q3
  .exact⟨_,rfl,q3⟩
  .exact q3.elim
 | .cmp2 o1 o2 a b c,X,S,E,g,e,h=>by
  sleep 3
  simp only[lw,decide_eq_true_eq]at h;obtain⟨⟨⟨⟨⟨rfl,rfl⟩,ha⟩,hb⟩,hc⟩,hn⟩:=h;refine PT.imp (yu (cy.bS (g.cmp o1)) (cy.bS (g.cmp o2)) (PE.bS (sE a g ha)) (PE.bS (sE b g hb)) (PE.bS (sE c g hc)) (jq hn)) λU H Q q=>⟨_,q,λx H1 q1=>⟨_,q1,λy H2 q2=>⟨_,q2,λz H3 q3=>?_⟩⟩⟩
  split at q3
  .refine⟨_,rfl,?_⟩;rw[cx]at q3
   split at q3
   .rename_i hk;rw[if_pos hk];refine⟨_,q3,λw H4 q4=>⟨_,q4,λz H5 q5=>?_⟩⟩
    split at q5
    .exact⟨_,rfl,q5⟩
    .exact q5.elim
   .rename_i hk;rw[if_neg hk];exact⟨_,rfl,q3⟩
  .exact q3.elim
 | .val x,X,S,E,g,e,h=>by
  have h:(mE S x e&&plainT e)=true:=h;simp only[lw]at h;refine PT.imp (xH (PE.bS (sE x g h.1)) (plainT_ok h.2 _)) λU H Q q=>⟨_,q,λy H1 z=>?_⟩
  exact g.hK▸C8 z
termination_by structural x=>x
theorem Jv:∀ (x:ft){X:Cx}{S:Sn}{E:St->XK},Gd X G S k E->∀ {ks:List Str}{keys:List (Option Expr)}{e:List Expr}{pos:Pos},ng ks keys=true->iT S x e=true->x.len=ks.length->PQ X pos keys e (λU H R=>∃ Q,wEs G x U H Q (E U)/\∀ xs H1,xs.length=x.len->Q xs H1->R (HL ks xs) H1)
 | .nil,X,S,E,g,ks,keys,[],pos,h1,h,hl=>by
  obtain rfl:ks=[]:=List.eq_nil_of_length_eq_zero hl.symm;rw[js h1];exact λY s U H R I ⟨Q,q,i⟩=>EJ Y s U H R I (i [] H rfl q)
 | .nil,X,S,E,g,_,_,_::_,pos,h1,h,hl=>by cases(show false=true from h)
 | .cons x xs,X,S,E,g,_,_,[],pos,h1,h,hl=>by cases(show false=true from h)
 | .cons x xs,X,S,E,g,[],keys,e::es,pos,h1,h,hl=>by cases hl
 | .cons x xs,X,S,E,g,c::ks,keys,e::es,pos,h1,h,hl=>by
  have h:(mE S x e&&notStar e&&iT S xs es)=true:=h;simp only[lw]at h;obtain⟨j,p,r,rfl,h2⟩:=gK h1;intro Y s U H R I ⟨Q,q,i⟩;refine An v5 (PE.bS (sE x g h.1.1)) (Jv xs g h2 h.2 (Nat.succ.inj hl)) Y s U H R I ?_;exact⟨_,q,λy H2 z=>⟨_,z,λys H3 hy w=>i (y::ys) H3 (congrArg Nat.succ hy) w⟩⟩
termination_by structural x=>x
theorem sZ:∀ (x:ft){X:Cx}{S:Sn}{E:St->XK},Gd X G S k E->∀ {e:List Expr},iT S x e=true->PA X e (λU H Q=>wEs G x U H Q (E U))
 | .nil,X,S,E,g,[],h=>fg
 | .nil,X,S,E,g,_::_,h=>by cases(show false=true from h)
 | .cons x xs,X,S,E,g,[],h=>by cases(show false=true from h)
 | .cons x xs,X,S,E,g,e::es,h=>by
  have h:(mE S x e&&notStar e&&iT S xs es)=true:=h;simp only[lw]at h;exact jo (sE x g h.1.1) (sZ xs g h.2) h.1.2
termination_by structural x=>x
end
end
end L3
namespace L2
open PySem PySem.Spec PyProof.Rows
variable {scope:Scope}{cl:List (Str×Addr)}{fr:List Str}{sel:List Nat}{s:Shared}
section
variable {X:Cx}
def fh {elt iter tgt:Expr}{ifs:List Expr}{xs:List Str}{y:Str}{py pos spos:Pos}{wi:TI}{tg:TG}{tc:TT}{te:TE}{ni:Nat}(hc:X.calm=true)(S:bc X scope cl xs fr sel)(hi:PI X tgt iter wi)
  (hg:∀ (s:Shared) (H:Hp) (fp:List Addr),PG (eK X scope cl (xs++fr) s H fp) tgt tg) (ht:∀ (s:Shared) (H:Hp) (fp:List Addr),HN (eK X scope cl (xs++fr) s H fp) ifs tc)
  (he:∀ (s:Shared) (H:Hp) (fp:List Addr),PE (eK X scope cl (xs++fr) s H fp) elt te) (hs:∀ x,foldedSetIterable iter X.env x=pure x) (hN:X.N.Nodup) (hni:X.N[ni]? =some y) (hy:X.env.scope.names.lookup y=some .local)
  (hsw:swapsWith (.ListComp elt [⟨tgt,iter,ifs,0⟩] scope pos) (some (.Name y py)) spos.line X.env=pure true):PS X (.Assign [.Name y py] (.ListComp elt [⟨tgt,iter,ifs,0⟩] scope pos) spos) (λD U H=>Gy wi tg tc te xs sel U H λv H1=>D.nx (U.set ni (some v)) H1):=by
 intro Y s U H DD I h;rw[exec_Assign_Name_used _ _ _ _ hsw];refine ad (wpAny_standAt (ad ?_));show wpAny _ _ (do let _ <-comprehension (.ListComp elt [⟨tgt,iter,ifs,0⟩] scope pos) scope X.env _ (newList []) false (eval iter X.env) (some (assign (.Name y py) X.env))) _ _ s;refine ad (wpAny_mono (wpAny_comprehension_free (use:=some (assign (.Name y py) X.env)) (Q:=λ_ s'=>SP X Y DD .next s') rfl hs S.clos S.kind S.names ?_) (λ_ s' hq=>am (am hq)) λ_ _ e=>e);refine aw (hi Y s U H _ I h) λv s1 h1=>aw h1 λitv s2 h2=>?_
 obtain⟨it,fp,tn,J,H2,e,I2,T,nB,f2,h2⟩:=h2;subst e;refine wpAny_newObj_type ?_;have hD:H2 s2.heap.objs.size=none:=I2.hok.fresh (pc _);have I3:Inv X Y U (upd H2 s2.heap.objs.size (.lst [])) { s2 with heap:=s2.heap.push { cls:=.type "list",dict:=none,data:=.seq ([]:List Value).toArray } }:=
  I2.laid (t':=s2.toks) (λb u e=>sw _ e) (pc _) ⟨Nat.zero_le _,[],0,.nil,tz _ rfl⟩
 have fo2:∀ b ∈ fp,b<s2.heap.objs.size:=λb hb=>by
  obtain⟨o,ho,_⟩:=T.obj _ _ nB b hb;exact sK ho
 have f3:∀ b ∈ fp,gQ X Y (upd H2 s2.heap.objs.size (.lst [])) b:=λb hb=>⟨by rw[af (ol (fo2 b hb))];exact(f2 b hb).1,(f2 b hb).2⟩
 have st3:tn 0 (s2.heap.push { cls:=.type "list",dict:=none,data:=.seq ([]:List Value).toArray }):=T.keep _ _ _ nB λb hb o e=>sw _ e
 have fo3:∀ b ∈ fp,b<(s2.heap.push { cls:=.type "list",dict:=none,data:=.seq ([]:List Value).toArray }).objs.size:=λb hb=>by
  rw[Heap.size_push];exact Nat.lt_succ_of_lt (fo2 b hb)
 obtain⟨W,⟨m0,w0⟩,turn⟩:=h2 _ hD;generalize s2.heap.objs.size=D at*;generalize hs3:({ s2 with heap:=s2.heap.push { cls:=.type "list",dict:=none,data:=.seq ([]:List Value).toArray } }:Shared)=s3 at*;have st3':tn 0 s3.heap:=by rw[<-hs3];exact st3
 have fo3':∀ b ∈ fp,b<s3.heap.objs.size:=by rw[<-hs3];exact fo3
 refine wpAny_newFunctionEnv S.nocell (by intro y hy;simp at hy) (λh' hns hsb=>?_) S.kind;have keep:∀ b o,s3.heap.get? b=some o->h'.get? b=some o:=λb o e=>(hsb.2 b (ol (sK e))).trans (sw _ e)
 have I4:=oY (tk:=s3.toks+([]:List (Str×Value)).length) S I3 f3 fo3' hns keep;have st4:tn 0 h':=T.keep _ _ _ st3' λb hb o e=>keep b o e
 have stat:∀ {H':Hp},(∀ b ∈ fp,H' b=none)->∀ b ∈ fp,gQ (eK X scope cl (xs++fr) s3 (upd H2 D (.lst [])) fp) (X.pn++Y) H' b:=λ{H'} hn b hb=>
  ⟨hn b hb,ol (fo3' b hb),λz=>(li.mp (I3.g6 b z)).elim (f3 b hb).2.1 (f3 b hb).2.2.1,.inl hb,λy c hy=>(f3 b hb).2.2.2.2.1 y c (S.sub y c hy),λp hp=>(f3 b hb).2.2.2.2.2 p (by simpa[eK] using hp)⟩
 have loop:codeAny (model X.prog X.w) X.A (.compLoop (.ListComp elt [⟨tgt,iter,ifs,0⟩] scope pos) 0 (.ref it) (.ref D) (compEnvC scope cl s3.heap.objs.size X.env))
   (compPost (model X.prog X.w) X.A X.xe (some (assign (.Name y py) X.env)) (λ_ s'=>SP X Y DD .next s') (.ref D) s3.heap.objs.size) { s3 with heap:=h',toks:=s3.toks+([]:List (Str×Value)).length }:=by
  refine codeAny_loop rfl (λn s'=>∃ i σ' H',Inv (eK X scope cl (xs++fr) s3 (upd H2 D (.lst [])) fp) (X.pn++Y) σ' H' s'/\tn i s'.heap/\(∀ b ∈ fp,H' b=none)/\W i n σ' H') (λn s5 hI=>?_) m0 ⟨0,_,_,I4,st4,λb hb=>(f3 b hb).1,w0⟩;show wpAny _ _ ((compTurn (.ListComp elt [⟨tgt,iter,ifs,0⟩] scope pos) 0 (.ref it) (.ref D) (compEnvC scope cl s3.heap.objs.size X.env)).onRaise (λx=>do noteFrame x (compEnvC scope cl s3.heap.objs.size X.env);theTreesLotGoes x)) _ _ s5;refine wpAny_noted ?_;refine sN (ht s3 (upd H2 D (.lst [])) fp).1 ?_;obtain⟨i,σ5,H5,I5,st5,fr5,w5⟩:=hI;rcases turn i n σ5 H5 w5 with⟨stop,q⟩|⟨go,Nn,hNn,step⟩
  .refine aw (T.done (eK X scope cl (xs++fr) s3 (upd H2 D (.lst [])) fp) rfl rfl rfl hc i _ s5 σ5 H5 _ I5 (stat fr5) st5 stop) λr s6 ⟨hr,I6⟩=>?_
   subst hr;obtain⟨m,hn,_⟩:=I6.loc;have J:Inv X Y U H5 s6:=I3.vV (ch:=fp) I6.os I6.base I6.hok I6.bare λb hb=>⟨(f3 b hb).2.2.2.1,(f3 b hb).2.1,(f3 b hb).2.2.2.2.1,(f3 b hb).2.2.2.2.2⟩
   have fC:H5 s3.heap.objs.size=none:=I6.free;have nL:s3.heap.objs.size≠X.env.locals:=Ne.symm (ol I3.lt);have nC:∀ z c,X.env.cells.lookup z=some c->c≠s3.heap.objs.size:=λz c e=>by
    obtain⟨v,o,ho,_⟩:=I3.cell z c e;exact ol (sK ho)
   show wpAny _ _ (assign (.Name y py) X.env (.ref D)) _ _ s6;refine wpAny_assign_Name (lj J hN hni (.inl hy) (v:=.ref D) rfl (λs7 J7 hsb=>?_) (.inr hy));obtain⟨a,sb,ha⟩:=hsb;have hne:s3.heap.objs.size≠a:=by
    rcases ha with ha|ha
    .rw[ha];exact nL
    .exact Ne.symm (nC _ _ ha)
   refine⟨m,hn.sameBut sb hne,λh'' hs''=>⟨_,H5,?_,q⟩⟩;exact J7.turned (h':=h'') (t':=s7.toks) (it:=s3.heap.objs.size) (λb o hb e=>(hs''.2 b hb).trans e) fC nL (.inr I3.sz) nC λp hp=>ol (sK (I3.pin p hp).1)
  .have fin:∀ {σ8:St}{H10:Hp}{s10:Shared},Inv (eK X scope cl (xs++fr) s3 (upd H2 D (.lst [])) fp) (X.pn++Y) σ8 H10 s10/\tn (i+1) s10.heap/\(∀ b ∈ fp,H10 b=none)->Nn σ8 H10->∃ m',m'<n/\∃ i σ' H',Inv (eK X scope cl (xs++fr) s3 (upd H2 D (.lst [])) fp) (X.pn++Y) σ' H' s10/\tn i s10.heap/\(∀ b ∈ fp,H' b=none)/\W i m' σ' H':=λ⟨I,t,f⟩ nn=>by
    obtain⟨m',hm,w10⟩:=hNn _ _ nn;exact⟨m',hm,i+1,_,_,I,t,f,w10⟩
   refine aw (T.item (eK X scope cl (xs++fr) s3 (upd H2 D (.lst [])) fp) rfl rfl rfl hc i _ s5 σ5 H5 _ I5 (stat fr5) st5 go) λr s6 ⟨u,hr,h6⟩=>?_
   subst hr;refine aw h6 λ_ s7 ⟨xv,H7,I7,r7,y7,st7,fr7⟩=>?_
   have I7':=I7.pinned (stat fr7) (T.obj _ _ st7);refine Cd (hg s3 _ fp _ s7 σ5 H7 xv u _ I7' r7 (step xv _ y7)) λ_ s8 ⟨σ8,H8,I8,q8⟩=>?_
   refine Cd ((ht s3 _ fp).2 _ s8 σ8 H8 _ I8 q8) λok s9 ⟨H9,I9,q9⟩=>?_
   have back:∀ {H10:Hp}{s10:Shared},Inv (eK X scope cl (xs++fr) s3 (upd H2 D (.lst [])) fp) _ σ8 H10 s10->Inv (eK X scope cl (xs++fr) s3 (upd H2 D (.lst [])) fp) (X.pn++Y) σ8 H10 s10/\tn (i+1) s10.heap/\(∀ b ∈ fp,H10 b=none):=λ{H10 s10} I10=>⟨I10.dY,T.keep _ _ _ st7 λb hb o e=>(I10.pin (b,o) (ii _ (ii _ (bH hb e)))).1,λb hb=>by
    obtain⟨o,e,d⟩:=T.obj _ _ st7 b hb;exact(I10.pin (b,o) (ii _ (ii _ (bH hb e)))).2.1⟩
   refine⟨λek=>?_,λek=>am ⟨rfl,fin (back I9) (q9.2 ek)⟩⟩;refine Cd (he s3 _ fp _ s9 _ _ _ I9 (q9.1 ek)) λuv s10 ⟨vv,H10,I10,r10,zs,hz,hzl,n10⟩=>?_
   refine Cd (gS (X:=eK X scope cl (xs++fr) s3 (upd H2 D (.lst [])) fp) _ s10 _ H10 (.ref D) [vv] (.ref D) [uv] (λ_ H'=>H'=upd H10 D (.lst (zs++[vv]))) I10 rfl (.cons r10 .nil) ⟨D,zs,vv,rfl,rfl,hz,hzl,rfl⟩) λ_ s11 ⟨_,H11,I11,_,e11⟩=>?_
   subst e11;exact am ⟨rfl,fin (back I11) n10⟩
 exact codeAny_compStart_list loop (T.self _ 0 _ _ _ st4 loop)
def uV {elt iter:Expr}{x y:Str}{px py pos spos:Pos}{wi:TI}{te:TE}{ni:Nat}(hc:X.calm=true)(S:bc X scope cl [x] fr sel)(hi:PI X (.Name x px) iter wi)
  (he:∀ (s:Shared) (H:Hp) (fp:List Addr),PE (eK X scope cl (x::fr) s H fp) elt te) (hs:∀ x,foldedSetIterable iter X.env x=pure x) (hN:X.N.Nodup) (hni:X.N[ni]? =some y) (hy:X.env.scope.names.lookup y=some .local)
  (hsw:swapsWith (.ListComp elt [⟨.Name x px,iter,[],0⟩] scope pos) (some (.Name y py)) spos.line X.env=pure true):PS X (.Assign [.Name y py] (.ListComp elt [⟨.Name x px,iter,[],0⟩] scope pos) spos) (λD U H=>JN wi te sel U H λv H1=>D.nx (U.set ni (some v)) H1):=λY s U H D I h=>
 fh hc S hi.up (λs H fp=>qR S) (λ_ _ _=>mV) he hs hN hni hy hsw Y s U H D I ⟨_,h,λ_ _ q=>q.g⟩
section
variable {prog:Program}{w:World}{A:Around}{E:KD}
def lA {it t:Addr}{items:Array Value}(hne:t≠it):∀ (n i:Nat) (s:Shared) (Q:List Value->Shared->Prop),s.heap.IsListIter it t i->s.heap.IsList t items->i+n<=items.size->
  (∀ h',h'.IsListIter it t (i+n)->Heap.SameBut it s.heap h'->Q ((items.toList.drop i).take n) { s with heap:=h' })->wpAny (model prog w) A (draw (.ref it) n) Q E s
 |0,i,s,Q,hit,_,_,hQ=>by
  show wpAny _ _ (pure []) Q E s;exact am (by simpa using hQ s.heap hit (Heap.SameBut.refl ..))
 |n+1,i,s,Q,hit,ht,hle,hQ=>by
  have hlt:i<items.size:=by omega
  show wpAny _ _ (pyNext (.ref it) >>= _) Q E s;refine ad (wpAny_pyNext_list_item hit ht (x:=items[i]) (by simp[hlt]) λh₁ hit₁ hs₁=>?_);refine ad (bd (lA hne n (i+1) _ _ hit₁ (ht.extBut hs₁.extBut hne) nofun λh₂ hit₂ hs₂=>am ?_));have hd:items.toList.drop i=items[i]::items.toList.drop (i+1):=by simp[List.drop_eq_getElem_cons,hlt]
  have:=hQ h₂ (by rw[show i+(n+1)=i+1+n by omega];exact hit₂) (hs₁.trans hs₂);rw[hd,List.take_succ_cons]at this;exact this
def gZ {t:Addr}{items:Array Value}{Q:List Value->Shared->Prop}(hh:A.handled=none)(ht:s.heap.IsList t items)(hty:s.TypeIs (.ref t) "list")
  (hQ:∀ h',Heap.ExtBut s.heap.objs.size s.heap h'->Q items.toList { s with heap:=h' }):wpAny (model prog w) A (unpackItems (.ref t) items.size none) Q E s:=by
 have hlt:t≠s.heap.objs.size:=by obtain⟨o,ho,_⟩:=id ht;exact ol (sK ho)
 unfold unpackItems;refine ad ?_
 .unfold notIterableAtAll;refine ad (wpAny_specialOf hty PySem.F.slot_list_iter.lookup ?_);refine am ?_;simp only[Bool.false_eq_true,if_false];refine ad (bd (wpAny_pyIter_list ht ?_));refine ad (bd (lA hlt items.size 0 _ _ ⟨_,tz _ rfl,rfl,rfl⟩ (ht.push _) nofun λh₁ hit₁ hs₁=>?_));have hall:List.take items.size (List.drop 0 items.toList)=items.toList:=by
   rw[drop_zero];exact List.take_of_length_le (by simp)
  rw[hall];rw[if_neg (by simp)];have ht₁:h₁.IsList t items:=(ht.push _).extBut hs₁.extBut hlt;refine ad (bd (wpAny_pyNext_list_end hh hit₁ ht₁ (by simp) λh₂ he₂=>?_));simp only[Option.isSome_none,Bool.false_eq_true,if_false];refine am (hQ h₂ λb o hb e=>he₂ b o hb (hs₁.extBut b o hb (sw _ e)))
end
def CB {es:List Expr}{k:Nat}{pos:Pos}{t:AB}{n:Nat}(hc:X.calm=true)(h:Dz X es t)
  (hn:(assignEach es X.env).length=n) (hst:(assignEach es X.env).findIdx? (·.1)=none){Y:KG}{U:St}{H:Hp}{a:Addr}{u:Value}{xs:List V}{Q:St->Hp->Prop}(I:Inv X Y U H s) (r:RelV (.ref a) u)
  (hq:aY X.K H a xs) (hl:xs.length=n) (hw:t xs U H Q):wpAny (model X.prog X.w) X.A (assign (.Tuple es k pos) X.env u) (λ_ s'=>∃ σ' H',Inv X Y σ' H' s'/\Q σ' H') X.xe s:=by
 cases r;obtain⟨its,rv,p,hz⟩:=I.list hq;rw[assign_Tuple];refine ad (wpAny_standAt ?_);unfold unpack;have e1:(assignEach es X.env).length=its.toArray.size:=by
  rw[hn,<-hl];simp[rv.length]
 rw[e1,hst];refine ad (bd (gZ (I.ok.hd hc) p.isList p.isList.typeIs λh' hx=>?_));have I1:Inv X Y U H { s with heap:=h' }:=I.kept (t':=s.toks) λb o e=>hx b o (ol (sK e)) e
 exact h Y _ U H xs _ Q I1 (by simpa using rv) hw
end
end L2
namespace L3
open PySem PySem.Spec L2
set_option maxHeartbeats 2000000
abbrev Cf:Expr->Bool
 | .Tuple ..=>false
 |_=>true
abbrev u7 (S:Sn):List Nat->List Expr->Bool
 | [],[]=>true
 |i::is,.Name x _::r=>S.loc i x&&u7 S is r
 |_,_=>false
abbrev Ii (S:Sn):HC->Expr->Bool
 | .nm i,e=>match e with| .Name x _=>S.loc i x|_=>false
 | .tp is,e=>match e with| .Tuple ts _ _=>u7 S is ts|_=>false
 | .nt i is,e=>match e with| .Tuple y1 _ _=>(match y1 with| [y2,y3]=>(match y2 with| .Name x _=>(match y3 with| .Tuple ts _ _=>S.loc i x&&u7 S is ts|_=>false)|_=>false)|_=>false)|_=>false
abbrev Sn.rz (S:Sn)(i:Nat)(x:Str):Bool:=decide (S.N[i]? =some x)&&decide (S.sc.names.lookup x=some .local)
abbrev Fc (S:Sn)(is:List Nat)(ts:List Expr):Bool:=match is with
 | [i,j]=>(match ts with| [a,b]=>(match a with| .Name x _=>(match b with| .Name y _=>S.rz i x&&(S.rz j y&&decide (i≠j))|_=>false)|_=>false)|_=>false)
 | [i,j,l]=>(match ts with| [a,b,c]=>(match a with| .Name x _=>(match b with| .Name y _=>(match c with| .Name z _=>S.rz i x&&(S.rz j y&&(S.rz l z&&(decide (i≠j)&&(decide (i≠l)&&decide (j≠l)))))|_=>false)|_=>false)|_=>false)|_=>false)
 |_=>false
mutual
noncomputable def mS (S:Sn):Sx->Stmt->Bool
 | .asg i e,s=>match s with| .Assign y1 e' _=>(match y1 with| [y2]=>(match y2 with| .Name x _=>S.loc i x&&mE S e e'|_=>false)|_=>false)|_=>false
 | .asgT is e,s=>match s with| .Assign y1 e' _=>(match y1 with| [y2]=>(match y2 with| .Tuple ts _ _=>u7 S is ts&&mE S e e'&&Cf e'|_=>false)|_=>false)|_=>false
 | .par is es,s=>match s with| .Assign y1 y2 _=>(match y1 with| [y3]=>(match y3 with| .Tuple ts kt pt=>(match y2 with| .Tuple vs k2 p2=>Fc S is ts&&iT S es vs&&D5 S.sc (.Tuple ts kt pt) (.Tuple vs k2 p2) (is.filterMap λi=>S.N[i]?)|_=>false)|_=>false)|_=>false)|_=>false
 | .sub o i v,s=>match s with| .Assign y1 v' _=>(match y1 with| [y2]=>(match y2 with| .Subscript o' i' _=>mE S o o'&&mE S i i'&&mE S v v'&&en i'|_=>false)|_=>false)|_=>false
 | .fld o f v,s=>match s with| .Assign y1 v' _=>(match y1 with| [y2]=>(match y2 with| .Attribute o' f' _=>mE S o o'&&decide (f=f')&&mE S v v'|_=>false)|_=>false)|_=>false
 | .aug i op e,s=>match s with| .AugAssign y1 op' e' _=>(match y1 with| .Name x _=>S.loc i x&&decide (op=op')&&mE S e e'|_=>false)|_=>false
 | .augS o i op e,s=>match s with| .AugAssign y1 op' e' _=>(match y1 with| .Subscript o' i' _=>mE S o o'&&mE S i i'&&decide (op=op')&&mE S e e'&&en i'|_=>false)|_=>false
 | .ret e,s=>match s with| .Return y1 _=>(match y1 with|some e'=>mE S e e'|_=>false)|_=>false
 | .retN,_=>false
 | .pass,_=>false
 | .brk,_=>false
 | .cont,_=>false
 | .expr e,s=>match s with| .Expr e' _=>mE S e e'&&qt e'|_=>false
 | .ife c a b,s=>match s with| .If c' a' b' _=>mT S c c'&&mB S a a'&&mB S b b'|_=>false
 | .whl c b,s=>match s with| .While c' b' y1 _=>(match y1 with| []=>mT S c c'&&mB S b b'|_=>false)|_=>false
 | .for t it b,s=>match s with| .For t' it' b' y1 _=>(match y1 with| []=>Ii S t t'&&mI S it t' it'&&mB S b b'&&cC it'|_=>false)|_=>false
 | .rais e,s=>match s with| .Raise y1 y2 _=>(match y1 with|some e'=>(match y2 with|none=>mE S e e'|_=>false)|_=>false)|_=>false
 | .tryx b hs,s=>match s with| .Try b' y1 y2 y3 _=>(match y1 with|h0::hs'=>(match y2 with| []=>(match y3 with| []=>mB S b b'&&mH S hs (h0::hs')|_=>false)|_=>false)|_=>false)|_=>false
noncomputable def mB (S:Sn):kP->List Stmt->Bool
 | .nil,l=>l.isEmpty
 | .cons s r,l=>match l with|s'::r'=>mS S s s'&&mB S r r'| []=>false
noncomputable def mH (S:Sn):yF->List ExceptHandler->Bool
 | .nil,l=>l.isEmpty
 | .cons c i b hs,l=>match l with| .ExceptHandler (some (.Name x _)) (some n) (b0::bs) _::r=>S.mF x&&decide (S.T.gcl.lookup x=some c)&&decide (S.N[i]? =some n)&&decide (S.sc.names.lookup n=some .local)&&mB S b (b0::bs)&&mH S hs r|_=>false
end
structure Gs (X:Cx) (G:Gx) (S:Sn) (k:Nat) (E:St->XK):Prop extends Gd X G S k E where
 xok:G.cm=true->ET X E
 own:PassesOwn (model X.prog X.w) X.A X.env X.xe
 stk:X.stack=X.env::X.outer
 fr:X.env.frame=some X.env.locals
 fn:∀ x,X.fn x=true
variable {e elt:Expr}{ts:List Expr}{p:Pos}{gs:List Comprehension}{scope:Scope}
section
variable {X:Cx}{G:Gx}{S:Sn}{k:Nat}{E:St->XK}
def Gs.fB (g:Gs X G S k E){Y:KG}{xe:KD}{E':St->XK}(hx:ET (X.fB Y xe) E')(ho:PassesOwn (model X.prog X.w) X.A X.env xe):Gs (X.fB Y xe) G S k E' where
 hK:=g.hK
 hT:=g.hT
 sc:=g.sc
 N:=g.N
 nd:=g.nd
 pass:=lK hx
 cm:=g.cm
 room:=g.room
 un:=g.un
 tab:=g.tab
 fns:=g.fns
 xok:=λ_=>hx
 own:=ho
 stk:=g.stk
 fr:=g.fr
 fn:=g.fn
def Gs.bB (g:Gs X G S k E)(e:Value):Gs (X.bB e) { G with cm:=false } S k (λ_ _ _=>False) where
 hK:=g.hK
 hT:=g.hT
 sc:=g.sc
 N:=g.N
 nd:=g.nd
 pass:=λY U H s e s' I h=>by
  obtain⟨e,H',C,dx,fs,T,_,_,_,_,_,_,_,_,_,q⟩:=h;exact q.elim
 cm:=λz=>by cases z
 room:=λz=>by cases z
 un:=g.un
 tab:=g.tab
 fns:=g.fns
 xok:=λz=>by cases z
 own:=PassesOwn.never
 stk:=g.stk
 fr:=g.fr
 fn:=g.fn
def kj (env:Env):∀ {is:List Nat}{ts:List Expr},u7 S is ts=true->(assignEach ts env).length=is.length/\(assignEach ts env).findIdx? (·.1)=none
 | [],[],_=>⟨rfl,rfl⟩
 | [],_::_,h=>by simp[u7]at h
 |_::_,[],h=>by simp[u7]at h
 |i::is,t::ts,h=>by
  cases t<;>simp[u7]at h
  rename_i x p;obtain⟨h1,h2⟩:=kj env h.2;have e:assignEach (.Name x p::ts) env=(false,assign (.Name x p) env)::assignEach ts env:=rfl;rw[e];refine⟨by simp[h1],?_⟩;rw[List.findIdx?_cons];simp[h2]
def nc (g:Gs X G S k E):∀ {is:List Nat}{ts:List Expr},u7 S is ts=true->Dz X ts (gl is)
 | [],[],_=>λY s U H vs us Q I r h=>mY Y s U H vs us Q I r ⟨length_eq_zero_iff.mp h.1,by
   have:=h.2;have e:vs=[]:=length_eq_zero_iff.mp h.1;subst e;exact this⟩
 | [],_::_,h=>by simp[u7]at h
 |_::_,[],h=>by simp[u7]at h
 |i::is,t::ts,h=>by
  cases t<;>simp[u7]at h
  rename_i x p;obtain⟨hi,hx⟩:=g.loc h.1;have h1:PG X (.Name x p) (gA i):=fR (by rw[g.N];exact g.nd) hi hx (.inl (g.fn x));have h2:=nc g h.2;intro Y s U H vs us Q I r q;refine f7 h1 h2 rfl Y s U H vs us Q I r ?_;obtain⟨hl,q⟩:=q;cases vs with
  |nil=>simp at hl
  |cons v vs=>exact⟨v,vs,rfl,by simpa using hl,q⟩
def B6 (g:Gs X G S k E)(hc:G.cm=true){t:HC}(h:Ii S t e=true):PG X e (λv U H Q=>wG U t G.R.K v H λσ1=>Q σ1 H):=by
 cases t with
 |nm i=>
  conv at h=>lhs;whnf
  split at h
  .obtain⟨hi,hx⟩:=g.loc h;exact fR (by rw[g.N];exact g.nd) hi hx (.inl (g.fn _))
  .cases h
 |tp is=>
  conv at h=>lhs;whnf
  split at h
  .intro Y s U H v u Q I r q;obtain⟨a,xs,rfl,hq,hl,q⟩:=q;obtain⟨e1,e2⟩:=kj X.env h;rw[g.hK]at hq;rcases hq with hq|hq
   .exact nr (g.cm hc) (nc g h) e1 e2 Y s U H _ u Q I r ⟨a,xs,rfl,hq,hl,hl,q⟩
   .exact CB (g.cm hc) (nc g h) e1 e2 I r hq hl ⟨hl,q⟩
  .cases h
 |nt i is=>
  conv at h=>lhs;whnf
  split at h
  .split at h
   .split at h
    .split at h
     .intro Y s U H v u Q I r q;simp only[lw]at h;obtain⟨a,y,b,ys,rfl,hq,hb,hl,q⟩:=q;obtain⟨e1,e2⟩:=kj X.env h.2;obtain⟨hi,hx⟩:=g.loc h.1;rw[g.hK]at hq hb;refine nr (n:=2) (g.cm hc) (f7 (fR (by rw[g.N];exact g.nd) hi hx (.inl (g.fn _))) (f7 (nr (g.cm hc) (nc g h.2) e1 e2) mY rfl) rfl) rfl rfl Y s U H _ u Q I r ⟨a,_,rfl,hq,rfl,y,_,rfl,.ref b,_,rfl,b,ys,rfl,hb,hl,hl,rfl,q⟩
     .cases h
    .cases h
   .cases h
  .cases h
def dS {kk:Nat}(n:Nat)(env:Env):swapsWithSole [.Tuple ts kk p] e n env=pure false:=by
 cases e<;>rfl
def uM {o i:Expr}(n:Nat)(env:Env):swapsWithSole [.Subscript o i p] e n env=pure false:=by
 cases e<;>rfl
def t4 {o:Expr}{f:Str}(n:Nat)(env:Env):swapsWith e (some (.Attribute o f p)) n env=pure false:=by
 cases e<;>rfl
def rj {kk:Nat}(env:Env)(h:Cf e=true):swappedStores [.Tuple ts kk p] e env=pure none:=by
 cases e<;>first|rfl|cases h
def qW {o i:Expr}(env:Env):swappedStores [.Subscript o i p] e env=pure none:=by
 cases e<;>rfl
def rF {o i:Expr}{pos:Pos}{env:Env}(h:en i=true):∀ v,assign (.Subscript o i pos) env v=(do
   let ov <-holding [v] (eval o env)
   let iv <-holding [v,ov] (eval i env)
   standAt pos
   holding [v,ov,iv] (setItem ov iv v)
   release [v,ov,iv] []):=by
 intro v;cases i<;>first|rfl|cases h
def Bh {i:Expr}(h:en i=true):∀ ov iv new,augStore i ov iv new=(do holding [new,ov,iv] (setItem ov iv new);release [new,ov,iv] [];pure .next):=by
 intro ov iv new;cases i<;>first|rfl|cases h
def B1 (op:Operator):GK X op (Hx op):=by
 intro Y s U H x y v u Q I r1 r2 h;unfold Hx at h
 split at h
 .exact D0 Y s U H _ _ v u Q I r1 r2 ⟨_,_,rfl,rfl,h⟩
 .exact Ck Y s U H _ _ v u Q I r1 r2 ⟨_,_,rfl,rfl,h⟩
 .exact h.elim
def Ep (g:Gd X G S k E):Cz X (vD G.R.K):=by
 intro Y s U H x y v u Q I r1 r2 h;unfold vD at h;rw[g.hK]at h
 split at h
 .obtain⟨xs,w,h1,h2,h3,q⟩:=h;exact xY Y s U H _ _ v u Q I r1 r2 ⟨_,xs,_,w,rfl,rfl,h1,h2,h3,q⟩
 .exact h.elim
def qT {py:Pos}{y:Str}{n:Nat}{env:Env}(hk:env.scope.kind=.function):∃ b,swapsWith (.ListComp elt gs scope p) (some (.Name y py)) n env=pure b/\(b=true->env.scope.names.lookup y=some .local):=by
 refine⟨_,rfl,λh=>?_⟩;simp only[lw]at h;have:=h.1.1.2;exact beq_iff_eq.mp this
end
set_option maxHeartbeats 2000000
variable {S:Sn}{α:Type}
section
variable {k:Nat}
def GU {x:Ex}(h:mE S x (.ListComp elt gs scope p)=true):(∃ e' sel it y py iter,x=.lc e' sel it/\gs=[⟨.Name y py,iter,[],0⟩]/\
  gU S scope [y] sel=true/\mI S it (.Name y py) iter=true/\mE { S with sc:=eI S.sc scope,N:=y::sel.filterMap λi=>S.N[i]? } e' elt=true/\cC iter=true)\/
  (∃ e' c sel it y py iter c',x=.lci e' c sel it/\gs=[⟨.Name y py,iter,[c'],0⟩]/\
  gU S scope [y] sel=true/\mI S it (.Name y py) iter=true/\mE { S with sc:=eI S.sc scope,N:=y::sel.filterMap λi=>S.N[i]? } e' elt=true/\mT { S with sc:=eI S.sc scope,N:=y::sel.filterMap λi=>S.N[i]? } c c'=true/\cC iter=true)\/
  ∃ e' n sel it ts kt pt iter,x=.lct e' n sel it/\gs=[⟨.Tuple ts kt pt,iter,[],0⟩]/\
  gU S scope (Gh ts) sel=true/\wm { S with sc:=eI S.sc scope,N:=Gh ts++sel.filterMap λi=>S.N[i]? } (List.range n) ts=true/\(Gh ts).length=n/\mI S it (.Tuple ts kt pt) iter=true/\mE { S with sc:=eI S.sc scope,N:=Gh ts++sel.filterMap λi=>S.N[i]? } e' elt=true/\cC iter=true:=by
 cases x<;>(try (cases(show false=true from h);done))
 all_goals (conv at h=>lhs;whnf)
 all_goals (iterate 5 (split at h<;>first|(cases h;done)|skip))
 all_goals (simp only[lw,decide_eq_true_eq]at h)
 all_goals first
  |exact .inl ⟨_,_,_,_,_,_,rfl,rfl,h.1.1.1,h.1.1.2,h.1.2,h.2⟩
  |exact .inr (.inl ⟨_,_,_,_,_,_,_,_,rfl,rfl,h.1.1.1.1,h.1.1.1.2,h.1.1.2,h.1.2,h.2⟩)
  |exact .inr (.inr ⟨_,_,_,_,_,_,_,_,rfl,rfl,h.1.1.1.1.1,h.1.1.1.1.2,h.1.1.1.2,h.1.1.2,h.1.2,h.2⟩)
def qD (e:Expr){x:Ex}(h:mE S x e=true):qt e=true\/∃ elt gs scope p,e=.ListComp elt gs scope p:=by
 cases e<;>first|exact .inl rfl|exact .inr ⟨_,_,_,_,rfl⟩|(cases x<;>cases(show false=true from h))
def F7 {G:Gx}{X:Cx}{E:St->XK}(g:Gs X G S k E){i:Nat}{x:Str}{e:Ex}{e':Expr}{px:Pos}(hx:S.loc i x=true)(h:mE S e e'=true):PS X (.Assign [.Name x px] e' p) (λD U H=>wS (.asg i e) G D E U H):=by
 obtain⟨hi,hl⟩:=g.loc hx;have hN:X.N.Nodup:=by rw[g.N];exact g.nd
 rcases qD e' h with hn|⟨elt,gs,scope,pp,rfl⟩
 .exact xQ hN hi hl (sE e g.toGd h) (gu hn _ _ _) (.inl (g.fn x))
 .intro Y s U H D I q;obtain⟨b,hb,hb2⟩:=qT (elt:=elt) (gs:=gs) (scope:=scope) (p:=pp) (py:=px) (y:=x) (n:=p.line) (env:=X.env) I.ok.kind;cases b with
  |false=>exact xQ hN hi hl (sE e g.toGd h) hb (.inl (g.fn x)) Y s U H D I q
  |true=>
   rcases GU h with⟨e2,sel,it,y,py,iter,rfl,rfl,h1,h2,h3,h4⟩|⟨e2,c,sel,it,y,py,iter,c',rfl,rfl,h1,h2,h3,h5,h4⟩|⟨e2,n,sel,it,ts,kt,pt,iter,rfl,rfl,h1,h5,h6,h2,h3,h4⟩
   .obtain⟨hc,q⟩:=(show G.cm=true/\wI G it U H (λJ H1=>yz (λσ' H' Q'=>wE G e2 σ' H' Q' (λ_ _=>False)) J (none::ja U sel) H1 (λx H1=>D.nx (U.set i (some x)) H1)) (E U) from q);rw[xP]at q;obtain⟨cl,C⟩:=c4 g.toGd I.ok h1;exact uV (g.cm hc) C (sI it g.toGd h2) (λs H fp=>sE e2 (g.toGd.comp C s H fp) h3) (cw h4 _) hN hi (hb2 rfl) hb Y s U H D I q
   .cases(show false=true from h)
   .cases(show false=true from h)
def Aa {xs:List α}{i j:Nat}(h:xs.length=[i,j].length):∃ a b,xs=[a,b]:=by
 match xs,h with
 | [a,b],_=>exact⟨a,b,rfl⟩
def uY {xs:List α}{i j l:Nat}(h:xs.length=[i,j,l].length):∃ a b c,xs=[a,b,c]:=by
 match xs,h with
 | [a,b,c],_=>exact⟨a,b,c,rfl⟩
mutual
theorem sS:∀ (x:Sx){G:Gx}{X:Cx}{S:Sn}{E:St->XK},Gs X G S k E->∀ {st:Stmt},mS S x st=true->PS X st (λD U H=>wS x G D E U H)
 | .asg i e,G,X,S,E,g,st,h=>by
  sleep 3
  simp only[lw]at h;exact F7 g h.1 h.2
 | .asgT is e,G,X,S,E,g,st,h=>by
  sleep 3
  simp only[lw]at h;obtain⟨⟨h1,h2⟩,h3⟩:=h;intro Y s U H D I q;obtain⟨hc,q⟩:=(show G.cm=true/\wE G e U H (λx H1=>wG U (.tp is) G.R.K x H1 λσ1=>D.nx σ1 H1) (E U) from q);exact yy (sE e g.toGd h2) (B6 g hc (t:=.tp is) (by simp only[Ii];exact h1)) (dS _ _) (rj _ h3) rfl Y s U H D I q
 | .par is es,G,X,S,E,g,st,h=>by
  sleep 4
  rename_i pos _ _ ts kt pt _ vs k2 p2;simp only[lw]at h;obtain⟨⟨h1,h2⟩,h3⟩:=h;intro Y s U H D I q;obtain⟨hc,q⟩:=(show G.cm=true/\wEs G es U H (λxs H1=>xs.length=is.length/\D.nx (uE U is xs) H1) (E U) from q);have hN:X.N.Nodup:=by rw[g.N];exact g.nd
  rw[<-g.sc]at h3;unfold Fc at h1
  split at h1
  .iterate 3 (split at h1;rotate_left;cases h1)
   rename_i i j _ _ x px _ y py;simp only[Sn.rz,lw,decide_eq_true_eq]at h1;obtain⟨⟨a1,a2⟩,⟨b1,b2⟩,c1⟩:=h1;rw[filterMap_cons,a1,filterMap_cons,b1,List.filterMap_nil]at h3;obtain⟨v1,v2,rfl⟩:=AX h3;rw[<-g.N]at a1 b1;rw[<-g.sc]at a2 b2;exact zO (g.cm hc) hN a1 b1 c1 a2 b2 (PA.bS (sZ es g.toGd h2)) (wu h3) (dS _ _) Y s U H D I ⟨_,q,λxs H1 z=>by
    obtain⟨z1,z2⟩:=z;obtain⟨u1,u2,rfl⟩:=Aa z1;exact⟨u1,u2,rfl,z2⟩⟩
  .iterate 4 (split at h1;rotate_left;cases h1)
   rename_i i j l _ _ x px _ y py _ z pz;simp only[Sn.rz,lw,decide_eq_true_eq]at h1;obtain⟨⟨a1,a2⟩,⟨b1,b2⟩,⟨d1,d2⟩,c1,c2,c3⟩:=h1;rw[filterMap_cons,a1,filterMap_cons,b1,filterMap_cons,d1,List.filterMap_nil]at h3;obtain⟨v1,v2,v3,rfl⟩:=uZ h3;rw[<-g.N]at a1 b1 d1;rw[<-g.sc]at a2 b2 d2;exact yL (g.cm hc) hN a1 b1 d1 c1 c2 c3 a2 b2 d2 (PA.bS (sZ es g.toGd h2)) (wu h3) (dS _ _) Y s U H D I ⟨_,q,λxs H1 z=>by
    obtain⟨z1,z2⟩:=z;obtain⟨u1,u2,u3,rfl⟩:=uY z1;exact⟨u1,u2,u3,rfl,z2⟩⟩
  .cases h1
 | .sub o i v,G,X,S,E,g,st,h=>by
  sleep 3
  simp only[lw]at h;obtain⟨⟨⟨h1,h2⟩,h3⟩,h4⟩:=h;exact yy (sE v g.toGd h3) (DY (sE o g.toGd h1) (sE i g.toGd h2) (rR g.un) (rF h4)) (uM _ _) (qW _) rfl
 | .fld o f v,G,X,S,E,g,st,h=>by
  sleep 3
  simp only[lw,decide_eq_true_eq]at h;obtain⟨⟨h1,rfl⟩,h3⟩:=h;intro Y s U H D I q;have q':wE G v U H (λy H1=>wE G o U H1 (λx H2=>y9 G f x y H2 (λH3=>D.nx U H3)) (E U)) (E U):=q;refine plainObj_wpAny_Assign_Attribute (aw (sE v g.toGd h3 Y s U H _ I q') λu s1 ⟨y,H1,I1,ry,q⟩=>aw (sE o g.toGd h1 Y s1 U H1 _ I1 q) λov s2 ⟨x,H2,I2,rx,q2⟩=>?_) (t4 _ _);unfold y9 at q2;obtain⟨a,i,rfl,hna,q2⟩:=q2;obtain rfl:ov=Value.ref a:=rx;have n:=g.tab.na i f hna;rcases q2 with⟨dx,fs,ho,ea,l,q2⟩|⟨d,fs,fr,ho,ea,l,q2⟩|⟨fr,ho,ea,q2⟩
  .exact qZ I2 ea (g.tab.oc i ho).1 n l ry λs3 I3=>⟨U,_,I3,q2⟩
  .exact rD I2 ea (g.tab.xc i ho).1 n l ry λs3 I3=>⟨U,_,I3,q2⟩
  .exact pX I2 ea (g.tab.xc i ho).1 n ry λd s3 hd I3=>⟨U,_,I3,q2 d hd⟩
 | .aug i op e,G,X,S,E,g,st,h=>by
  sleep 2
  simp only[lw,decide_eq_true_eq]at h;obtain⟨⟨h1,rfl⟩,h3⟩:=h;obtain⟨hi,hl⟩:=g.loc h1;refine PS.imp (Cj (by rw[g.N];exact g.nd) hi hl (sE e g.toGd h3) (B1 op) (.inl (g.fn _))) λD U H q=>?_
  conv at q=>whnf
  split at q
  .rename_i e;exact⟨_,e,q⟩
  .exact q.elim
 | .augS o i op e,G,X,S,E,g,st,h=>by
  sleep 2
  simp only[lw,decide_eq_true_eq]at h;obtain⟨⟨⟨⟨h1,h2⟩,rfl⟩,h3⟩,h4⟩:=h;exact AO (sE o g.toGd h1) (sE i g.toGd h2) (Ep g.toGd) (sE e g.toGd h3) (B1 op) (rR g.un) (Bh h4)
 | .ret e,G,X,S,E,g,st,h=>by
  sleep 2
  exact CS (sE e g.toGd h)
 | .retN,G,X,S,E,g,st,h=>by cases(show false=true from h)
 | .pass,G,X,S,E,g,st,h=>by cases(show false=true from h)
 | .brk,G,X,S,E,g,st,h=>by cases(show false=true from h)
 | .cont,G,X,S,E,g,st,h=>by cases(show false=true from h)
 | .expr e,G,X,S,E,g,st,h=>by
  sleep 1
  simp only[lw]at h;exact zC (sE e g.toGd h.1) (gu h.2 _ _ _)
 | .ife c a b,G,X,S,E,g,st,h=>by
  sleep 1
  simp only[lw]at h;exact PS.imp (GW (PT.bS (sT c g.toGd h.1.1)) (sB a g h.1.2) (sB b g h.2)) λD U H q=>⟨_,q,λk H1 z=>by rwa [cx]at z⟩
 | .whl c b,G,X,S,E,g,st,h=>by
  sleep 2
  simp only[lw]at h;refine PS.imp (vG g.own (PT.bS (sT c g.toGd h.1)) (sB b g h.2)) λD U H q=>?_
  obtain⟨W,w0,w1⟩:=q;exact⟨W,w0,λm U H w=>⟨_,w1 m U H w,λk H1 z=>by rwa [cx]at z⟩⟩
 | .for t it b,G,X,S,E,g,st,h=>by
  sleep 2
  simp only[lw]at h;obtain⟨⟨⟨h1,h2⟩,h3⟩,h4⟩:=h;intro Y s U H D I q
  conv at q=>whnf
  obtain⟨hc,q⟩:=q;unfold kI at q;exact DQ g.own (g.cm hc) (sI it g.toGd h2) (B6 g hc h1) (sB b g h3) (cw h4 _) Y s U H D I q
 | .rais e,G,X,S,E,g,st,h=>by
  sleep 3
  intro Y s U H D I q
  conv at q=>whnf
  obtain⟨hc,q⟩:=q;refine vC (g.xok hc) (g.cm hc) (PE.bS (sE e g.toGd h)) Y s U H D I ⟨_,q,λv H1 z=>?_⟩;obtain⟨a,i,dx,fs,ev,ea,hi,q⟩:=z;exact⟨a,_,dx,fs,ev,ea,(g.tab.xc i hi).1,q⟩
 | .tryx b hs,G,X,S,E,g,st,h=>by
  sleep 4
  simp only[lw]at h;intro Y s U H D I q;obtain⟨hc,q⟩:=(show G.cm=true/\wB b G D (λσ' e H'=>wH hs G D σ' e H') U H from q);refine Eo (E':=λσ' e H'=>wH hs G D σ' e H') I g.stk g.fr (λxe hx ho=>?_) λσ' H' s' e C dx fs T J he hT hH hp st q'=>?_
  .exact sB b (g.fB hx ho) h.1 [] s U H D (I.fB xe) q
  .exact sH hs g h.2 J he hT hH hp st q'
theorem sB:∀ (x:kP){G:Gx}{X:Cx}{S:Sn}{E:St->XK},Gs X G S k E->∀ {st:List Stmt},mB S x st=true->AQ X st (λD U H=>wB x G D E U H)
 | .nil,G,X,S,E,g,[],h=>yS
 | .nil,G,X,S,E,g,_::_,h=>by cases(show false=true from h)
 | .cons x xs,G,X,S,E,g,[],h=>by cases(show false=true from h)
 | .cons x xs,G,X,S,E,g,st::sts,h=>by
  have h:(mS S x st&&mB S xs sts)=true:=h;simp only[lw]at h;exact vR (sS x g h.1) (sB xs g h.2)
theorem sH:∀ (x:yF){G:Gx}{X:Cx}{S:Sn}{E:St->XK},Gs X G S k E->∀ {hs:List ExceptHandler},mH S x hs=true->∀ {Y:KG}{U:St}{H:Hp}{s:Shared}{e C:Addr}{dx:Option Addr}{fs:List (Str×V)}{T:Addr}{D:Ends},
  L2.Inv X Y U H s->H e=some (.exc C dx fs false)->X.s₀.heap.objs.size<=T->H T=none->(∀ p ∈ X.pn++Y,p.1≠T)->yE s.heap e T .none->wH x G D U e H->wpAny (model X.prog X.w) X.A (handleBy (.ref e) X.env hs) (SP X Y D) X.xe s
 | .nil,G,X,S,E,g,hs,h,Y,U,H,s,e,C,dx,fs,T,D,I,he,hT,hH,hp,st,q=>by
  simp only[wH]at q
 | .cons c i b hs,G,X,S,E,g,l,h,Y,U,H,s,e,C,dx,fs,T,D,I,he,hT,hH,hp,st,q=>by
  conv at h=>lhs;whnf
  split at h
  .simp only[lw,decide_eq_true_eq]at h;obtain⟨⟨⟨⟨⟨h1,h2⟩,h3⟩,h4⟩,h5⟩,h6⟩:=h;obtain⟨hg,hdb⟩:=g.glob h1;have hm:=g.tab.gcl _ _ (g.hT▸h2);obtain⟨j,dx',fs',kk,he',hxc,hsub,q⟩:=(show ∃ j dx fs k,H e=some (.exc (G.R.cad j) dx fs false)/\G.T.xc.contains j=true/\G.T.sub.lookup (j,c)=some k/\_ from q);have ee:=he.symm.trans he'
   injection ee with ee
   injection ee with e1 e2 e3 e4
   subst e1;obtain⟨_,hs2⟩:=g.tab.sub j c kk hsub;obtain⟨hs3,hs4⟩:=hs2 hxc;refine nW (i:=i) I he hT hH hp st (g.tab.xc j hxc).1 hs4 hs3 hg hm (by rw[g.N];exact g.nd) (by rw[g.N];exact h3) (by rw[g.sc];exact h4) hdb (λhk s2 J=>?_) λhk=>?_
   .rw[hk]at q;unfold gF at q;exact sB b (g.bB (.ref e)) h5 Y s2 _ H _ J q
   .rw[hk]at q;unfold gF at q;exact sH hs g h6 I he hT hH hp st q
  .cases h
end
end
abbrev cG (T:Tab)(R:Rt):Nat->Nat->Sp
 |0,_=>λ_ _ _ _=>False
 |k+1,f=>λvs H Q E=>match T.fns[f]? with
  |some d=>vs.length=d.ps.length/\wB d.body ⟨T,R,cG T R k,true⟩ { nx:=λ_ H'=>Q .non H',rt:=Q } (λ_=>E) (start d.N vs) H
  |none=>False
structure ux (K:W.Frag) (T:Tab) (f:Addr) (d:aq):Prop where
 ex:∃ (name qual:Str) (params:Arguments) (body:List Stmt) (scope:Scope) (dV kV doc pm cdv ct oc:Value) (od an:Option Addr) (osl:Array (Option Value)),
  K.lookup f=some ⟨oc,od,.func (W.fnOf name qual params body scope dV kV doc pm an cdv ct),osl⟩/\W.codeIn K cdv qual=true/\jk d.N d.ps scope/\mB ⟨T,scope,d.N⟩ d.body body=true/\
  ∀ j,∃ ds,Binds K (W.fnOf name qual params body scope dV kV doc pm an cdv ct) d.ps ds/\Vals (d.dfl.drop j) ds
def wC {P:Program}{w:World}{K:W.Frag}{mg:KH}{base:Heap}{T:Tab}{R:Rt}(tab:Ar K mg T R)(hK:R.K=K)(fs:∀ f d,T.fns[f]? =some d->ux K T (R.fad f) d):
  ∀ (k f:Nat) (d:aq),T.fns[f]? =some d->vO P w K mg base (2*k) (R.fad f) d (cG T R k f)
 |0,f,d,hd=>by
  obtain⟨name,qual,params,body,scope,dV,kV,doc,pm,cdv,ct,oc,od,an,osl,lk,hcd,S,hm,hb⟩:=(fs f d hd).ex;exact⟨⟨_,⟨λ_ _ _ _ h=>h.elim,λ_ _ _ _ _ _ _ _ _ _ _ _ _ h=>h.elim⟩,hb⟩,λ_ _ _ _ _=>⟨λ_ _ _ _ h=>h.elim,λ_ _ _ _ _ _ _ _ _ _ _ _ _ h=>h.elim⟩⟩
 |k+1,f,d,hd=>by
  obtain⟨name,qual,params,body,scope,dV,kV,doc,pm,cdv,ct,oc,od,an,osl,lk,hcd,S,hm,hb⟩:=(fs f d hd).ex;have F:=Fu (P:=P) (w:=w) (mg:=mg) (base:=base) (CX:=xM P w) (k:=2*k+1) (sp:=cG T R (k+1) f) lk hcd S (λvs H Q E h=>?_) (λA outer s H vs Q E hr h=>?_)
  .refine⟨⟨_,F,hb⟩,λfd oc' od' osl' lk'=>?_⟩;have e:=lk.symm.trans lk'
   injection e with e
   injection e with e1 e2 e3 e4
   injection e3 with e3
   subst e3;exact F
  .simp only[cG,hd]at h;exact h.1
  .simp only[cG,hd]at h;refine⟨λD U H=>wB d.body ⟨T,R,cG T R k,true⟩ D (λ_=>E) U H,?_,h.2⟩;have hx:=uC (P:=P) (w:=w) (K:=K) (mg:=mg) (base:=base) (N:=d.N) (qual:=qual) (scope:=scope) (f:=R.fad f) (cd:=cdv) (A:=A) (outer:=outer) (E:=E) (s:=s) (H:=H);refine sB (k:=2*k) d.body (G:=⟨T,R,cG T R k,true⟩) (S:=⟨T,scope,d.N⟩) { hK:=hK,hT:=rfl,sc:=rfl,N:=rfl,nd:=S.nd,pass:=lK hx,cm:=λ_=>rfl,room:=λ_=>hr,un:= ?_,tab:=tab,fns:=λf' d' hd'=>wC tab hK fs k f' d' hd',xok:=λ_=>hx,own:=PassesOwn.leaving,stk:=rfl,fr:=rfl,fn:=λ_=>rfl } hm;have:=hr.un;show(A.deeper _).units+200<cLine
   omega
abbrev il (K:W.Frag)(n:Nat):Sp:=λvs H Q _=>∃ (a:Addr) (ns:List Int),vs=[.ref a]/\aY K H a (ns.map V.int)/\ns.length<=n/\∀ H',Q (.bl true) H'
variable {P:Program}
def yg {w:World}{H:Hp}{s:Shared}{e:Value}{s':Shared}(h:xM P w [] H s (λ_ _=>False) e s'):False:=by
 obtain⟨e,H',C,dx,fs,T,_,_,_,_,_,_,_,_,_,q⟩:=h;exact q
variable {K:W.Frag}{fd:FuncData}{ps:List Str}
def Em (h:Binds K fd ps []):∀ j:Nat,∃ ds,Binds K fd ps ds/\Vals (([]:List V).drop j) ds:=λj=>⟨[],h,by simp;exact .nil⟩
def AA {ds:List Value}{T:Addr}{o:Obj}{items:Array Value}{c n:Nat}(hd:fd.defaults=.ref T)(ho:K.lookup T=some o)(hs:o.data=.seq items c)(hn:n+ds.length=ps.length)
  (h:∀ us:List Value,us.length=n->∃ k:Option (Array Value)->Sem (List (Str×Value)),bindArgs fd ⟨us,[]⟩=seqItems? fd.defaults >>= k/\k (some items)=pure (ps.zip (us++ds))):Binds K fd ps ds:=λs us X hl=>by
 obtain⟨k,h1,h2⟩:=h us (by rw[ci]at hl;omega);exact W.binds_K X hd ho hs h1 h2
def lD:∀ {vs:List V}{us:List Value}(j:Nat),Vals vs us->Vals (vs.drop j) (us.drop j)
 |_,_,0,h=>h
 |_,_,j+1,.nil=>by simp;exact .nil
 |_::_,_::_,j+1,.cons _ h=>by simpa using lD j h
def pY {α β:Type} [BEq α] [LawfulBEq α] {x:α}{y:β}:∀ {l:List (α×β)},l.lookup x=some y->(x,y) ∈ l
 | [],h=>by simp at h
 |(a,b)::l,h=>by
  rw[lookup_cons]at h;cases e:x ==a with
  |true=>
   rw[e]at h;have:=beq_iff_eq.mp e;subst this
   injection h with h
   subst h;exact lf
  |false=>
   rw[e]at h;exact dl _ (pY h)
def jV {β:Type} [BEq α] [LawfulBEq α] {P:α->β->Prop}{l:List (α×β)}(h:∀ p ∈ l,P p.1 p.2):∀ x y,l.lookup x=some y->P x y:=λx y e=>h (x,y) (pY e)
def fV {β γ:Type} [BEq α] [LawfulBEq α] [BEq β] [LawfulBEq β] {P:α->β->γ->Prop}{l:List ((α×β)×γ)}(h:∀ p ∈ l,P p.1.1 p.1.2 p.2):∀ x y z,l.lookup (x,y)=some z->P x y z:=λx y z e=>h ((x,y),z) (pY e)
def g8  [BEq α] [LawfulBEq α] {P:α->Prop}{l:List α}(h:∀ p ∈ l,P p):∀ x,l.contains x=true->P x:=λx e=>h x (by simpa using e)
def yR {β:Type} [BEq α] [LawfulBEq α] [BEq β] [LawfulBEq β] {P:α->β->Prop}{l:List (α×β)}(h:∀ p ∈ l,P p.1 p.2):∀ x y,l.contains (x,y)=true->P x y:=λx y e=>h (x,y) (by simpa using e)
abbrev rG (P:Nat->aq->Prop):Nat->List aq->Prop
 |_,[]=>True
 |n,d::r=>P n d/\rG P (n+1) r
def BP {P:Nat->aq->Prop}:∀ {l:List aq}{n:Nat},rG P n l->∀ f d,l[f]? =some d->P (n+f) d
 | [],_,_,f,d,e=>by simp at e
 |a::l,n,h,0,d,e=>by
  have:a=d:=by simpa using e
  subst this;exact h.1
 |a::l,n,h,f+1,d,e=>by
  have:=BP h.2 f d (by simpa using e)
  rwa [Nat.add_assoc,Nat.add_comm 1 f]at this
def qV {P:Nat->aq->Prop}{l:List aq}(h:rG P 0 l):∀ f d,l[f]? =some d->P f d:=λf d e=>by
 have:=BP h f d e
 rwa [Nat.zero_add]at this
def Dm {w:World}{mg:KH}{base:Heap}{T:Tab}{R:Rt}(tab:Ar K mg T R)(hK:R.K=K)(fs:∀ f d,T.fns[f]? =some d->ux K T (R.fad f) d) (k fl:Nat) (d:aq) (hd:T.fns[fl]? =some d)
  {oc:Value}{od:Option Addr}{osl:Array (Option Value)}(lk:K.lookup (R.fad fl)=some ⟨oc,od,.func fd,osl⟩) (h:∀ vs H Q E,il K 63 vs H Q E->cG T R k fl vs H Q E):cM P w K mg base (xM P w) (2*k) (R.fad fl) fd d.ps (il K 63):=
 ((wC tab hK fs k fl d hd).own _ _ _ _ lk).imp h
end L3
namespace L3
open PySem L2
abbrev kE:HO->HO
 | .lst _=>.lst []
 | .dK _=>.dK []
 | .dT _=>.dT []
 | .iY _ (.dK _)=>.dK []
 | .ins C dx _=>.ins C dx []
 | .exc C _ _ _=>.exc C none [] false
 |o=>o
abbrev kd:HO->Option String
 | .lst _=>some "list"
 | .tup _=>some "tuple"
 | .dK _=>some "dict"
 | .iY _ (.dK _)=>some "dict"
 |_=>none
def sV (o:HO):kd (kE o)=kd o:=by
 cases o<;>first|rfl|(rename_i u;cases u<;>rfl)
abbrev i6 (H H':Hp):Prop:=∀ a o,H a=some o->∃ o',H' a=some o'/\kE o'=kE o
def i6.tup {H H':Hp}(g:i6 H H'){t:Addr}{xs:List V}(h:H t=some (.tup xs)):H' t=some (.tup xs):=by
 obtain⟨o',h1,h2⟩:=g t _ h;have key:∀ u:HO,kE u=.tup xs->u=.tup xs:=λu=>by cases u<;>intro e<;>first|exact e|cases e|(rename_i v;cases v<;>cases e)
 rw[key o' h2]at h1;exact h1
variable {H:Hp}{t:String}
def i6.ty {H':Hp}(g:i6 H H'){v:V}(h:tyName v H=some t):tyName v H'=some t:=by
 cases v<;>try exact h
 rename_i a;have h':(match H a with|some (.lst _)=>some "list"|some (.tup _)=>some "tuple"|some (.dK _)=>some "dict"|some (.iY _ (.dK _))=>some "dict"|_=>none)=some t:=h;show(match H' a with|some (.lst _)=>some "list"|some (.tup _)=>some "tuple"|some (.dK _)=>some "dict"|some (.iY _ (.dK _))=>some "dict"|_=>none)=some t;cases e:H a with
 |none=>rw[e]at h';cases h'
 |some o=>
  rw[e]at h';obtain⟨o',h1,h2⟩:=g a _ e;rw[h1];have key:kd o'=kd o:=by rw[<-sV o',<-sV o,h2]
  have k1:∀ u:HO,(match some u with|some (HO.lst _)=>some "list"|some (.tup _)=>some "tuple"|some (.dK _)=>some "dict"|some (.iY _ (.dK _))=>some "dict"|_=>none)=kd u:=λu=>by cases u<;>first|rfl|(rename_i v;cases v<;>rfl)
  rw[k1]at h'⊢;rw[key];exact h'
variable {a:Addr}{xs:List V}
def Dw (e:H a=some (.lst xs)):tyName (.ref a) H=some "list":=by
 show(match H a with|some (.lst _)=>some "list"|some (.tup _)=>some "tuple"|some (.dK _)=>some "dict"|some (.iY _ (.dK _))=>some "dict"|_=>none)=_;rw[e]
def Fw (e:H a=some (.tup xs)):tyName (.ref a) H=some "tuple":=by
 show(match H a with|some (.lst _)=>some "list"|some (.tup _)=>some "tuple"|some (.dK _)=>some "dict"|some (.iY _ (.dK _))=>some "dict"|_=>none)=_;rw[e]
def i6.upd {o o':HO}(h:H a=some o)(e:kE o'=kE o):i6 H (L2.upd H a o'):=λb u hb=>by
 by_cases z:b=a
 .subst z;rw[h]at hb;cases hb;exact⟨o',av,e⟩
 .exact⟨u,(af z).trans hb,rfl⟩
def i6.new {o':HO}(h:H a=none):i6 H (L2.upd H a o'):=λb u hb=>⟨u,(af λz=>by rw[z,h]at hb;cases hb).trans hb,rfl⟩
structure az where
 p:Hp->(Addr->Prop)->Prop
 st:∀ H H' D,p H D->(∀ a,D a->H' a=H a)->i6 H H'->p H' D
 up:∀ H D D',p H D->(∀ a,D a->D' a)->p H D'
abbrev pt (a:Addr)(o:HO):az:=⟨λH D=>D a/\H a=some o,λH H' D h k _=>⟨h.1,(k a h.1).trans h.2⟩,λH D D' h k=>⟨k a h.1,h.2⟩⟩
abbrev tu (t:Addr)(xs:List V):az:=⟨λH _=>H t=some (.tup xs),λH H' D h _ k=>k.tup h,λH D D' h _=>h⟩
abbrev tys (xs:List V):az:=⟨λH _=>∀ x ∈ xs,∃ t,tyName x H=some t,λH H' D h _ k x hx=>let⟨t,e⟩:=h x hx;⟨t,k.ty e⟩,λH D D' h _=>h⟩
abbrev pu (φ:Prop):az:=⟨λ_ _=>φ,λ_ _ _ h _ _=>h,λ_ _ _ h _=>h⟩
abbrev ex {α:Type}(f:α->az):az:=⟨λH D=>∃ x,(f x).p H D,λH H' D ⟨x,h⟩ k t=>⟨x,(f x).st H H' D h k t⟩,λH D D' ⟨x,h⟩ k=>⟨x,(f x).up H D D' h k⟩⟩
abbrev nB (A B:az):az:=⟨λH D=>∃ D1 D2:Addr->Prop,(∀ a,D1 a->D a)/\(∀ a,D2 a->D a)/\(∀ a,D1 a->D2 a->False)/\A.p H D1/\B.p H D2,
 λH H' D ⟨D1,D2,s1,s2,dj,h1,h2⟩ k t=>⟨D1,D2,s1,s2,dj,A.st H H' D1 h1 (λa z=>k a (s1 a z)) t,B.st H H' D2 h2 (λa z=>k a (s2 a z)) t⟩,
 λH D D' ⟨D1,D2,s1,s2,dj,h1,h2⟩ k=>⟨D1,D2,λa z=>k a (s1 a z),λa z=>k a (s2 a z),dj,h1,h2⟩⟩
abbrev a9:List az->Hp->(Addr->Prop)->Prop
 | [],_,_=>True
 |A::O,H,D=>∃ D1 D2:Addr->Prop,(∀ a,D1 a->D a)/\(∀ a,D2 a->D a)/\(∀ a,D1 a->D2 a->False)/\A.p H D1/\a9 O H D2
abbrev Sep (O:List az)(H:Hp):Prop:=∃ D:Addr->Prop,(∀ a,D a->H a≠none)/\a9 O H D
inductive ag (A:az):List az->List az->Prop where
 |e {O:List az}:ag A (A::O) O
 |t {B:az}{O Γ':List az}(h:ag A O Γ'):ag A (B::O) (B::Γ')
variable {g:List az}
section
variable {A B:az}{O Γ':List az}{H H':Hp}{a b p t:Addr}{o o':HO}{xs:List V}{φ:Prop}
def a9.st:∀ {O:List az}{H H':Hp}{D:Addr->Prop},a9 O H D->(∀ a,D a->H' a=H a)->i6 H H'->a9 O H' D
 | [],_,_,_,_,_,_=>True.intro
 |A::O,H,H',D,⟨D1,D2,s1,s2,dj,h1,h2⟩,k,t=>⟨D1,D2,s1,s2,dj,A.st H H' D1 h1 (λa z=>k a (s1 a z)) t,a9.st h2 (λa z=>k a (s2 a z)) t⟩
def a9.up:∀ {O:List az}{H:Hp}{D D':Addr->Prop},a9 O H D->(∀ a,D a->D' a)->a9 O H D'
 | [],_,_,_,_,_=>True.intro
 |A::O,H,D,D',⟨D1,D2,s1,s2,dj,h1,h2⟩,k=>⟨D1,D2,λa z=>k a (s1 a z),λa z=>k a (s2 a z),dj,h1,h2⟩
def Sep.nil:Sep [] H:=⟨λ_=>False,λ_ z=>z.elim,True.intro⟩
def a9.pull:∀ {O Γ':List az}{D:Addr->Prop},ag A O Γ'->a9 O H D->a9 (A::Γ') H D:=by
 intro O Γ' D h
 induction h generalizing D with
 |e=>exact λz=>z
 |t h ih=>
  rintro⟨D1,D2,s1,s2,dj,h1,h2⟩;obtain⟨E1,E2,t1,t2,ej,k1,k2⟩:=ih h2;refine⟨E1,λa=>D1 a\/E2 a,λa z=>s2 a (t1 a z),λa z=>z.elim (s1 a) λz=>s2 a (t2 a z),λa z1 z2=>?_,k1,D1,E2,λa z=>.inl z,λa z=>.inr z,λa z1 z2=>dj a z1 (t2 a z2),h1,k2⟩;rcases z2 with z2|z2
  .exact dj a z2 (t1 a z1)
  .exact ej a z1 z2
def Sep.pull (h:ag A O Γ')(s:Sep O H):Sep (A::Γ') H:=let⟨D,k,z⟩:=s;⟨D,k,a9.pull h z⟩
def a9.push:∀ {O Γ':List az}{D:Addr->Prop},ag A O Γ'->a9 (A::Γ') H D->a9 O H D:=by
 intro O Γ' D h
 induction h generalizing D with
 |e=>exact λz=>z
 |t h ih=>
  rintro⟨D1,D2,s1,s2,dj,h1,E1,E2,t1,t2,ej,k1,k2⟩;refine⟨E1,λa=>D1 a\/E2 a,λa z=>s2 a (t1 a z),λa z=>z.elim (s1 a) λz=>s2 a (t2 a z),λa z1 z2=>?_,k1,ih ⟨D1,E2,λa z=>.inl z,λa z=>.inr z,λa z1 z2=>dj a z1 (t2 a z2),h1,k2⟩⟩;rcases z2 with z2|z2
  .exact dj a z2 (t1 a z1)
  .exact ej a z1 z2
def Sep.push (h:ag A O Γ')(s:Sep (A::Γ') H):Sep O H:=let⟨D,k,z⟩:=s;⟨D,k,a9.push h z⟩
def Sep.drop (s:Sep (A::O) H):Sep O H:=let⟨D,k,D1,D2,s1,s2,dj,h1,h2⟩:=s;⟨D2,λa z=>k a (s2 a z),h2⟩
def Sep.at (s:Sep (pt a o::O) H):H a=some o:=let⟨D,k,D1,D2,s1,s2,dj,h1,h2⟩:=s;h1.2
def Sep.atT (s:Sep (tu t xs::O) H):H t=some (.tup xs):=let⟨D,k,D1,D2,s1,s2,dj,h1,h2⟩:=s;h1
def Sep.pure (s:Sep (pu φ::O) H):φ:=let⟨D,k,D1,D2,s1,s2,dj,h1,h2⟩:=s;h1
def Sep.AS (h:φ)(s:Sep O H):Sep (pu φ::O) H:=let⟨D,k,h2⟩:=s;⟨D,k,λ_=>False,D,λ_ z=>z.elim,λ_ z=>z,λ_ z _=>z,h,h2⟩
def Sep.HD (h:H t=some (.tup xs))(s:Sep O H):Sep (tu t xs::O) H:=let⟨D,k,h2⟩:=s;⟨D,k,λ_=>False,D,λ_ z=>z.elim,λ_ z=>z,λ_ z _=>z,h,h2⟩
def Sep.ne (s:Sep (pt a o::pt b o'::O) H):a≠b:=by
 obtain⟨D,k,D1,D2,s1,s2,dj,h1,E1,E2,t1,t2,ej,k1,k2⟩:=s;rintro rfl;exact dj a h1.1 (t1 a k1.1)
def Sep.set (s:Sep (pt a o::O) H)(n:kE o'=kE o):Sep (pt a o'::O) (upd H a o'):=by
 obtain⟨D,k,D1,D2,s1,s2,dj,h1,h2⟩:=s;refine⟨D,λb z=>?_,D1,D2,s1,s2,dj,⟨h1.1,av⟩,a9.st h2 (λb z=>af λe=>dj a h1.1 (e▸z)) (i6.upd h1.2 n)⟩
 by_cases e:b=a
 .rw[e,av];exact λz=>by cases z
 .rw[af e];exact k b z
def Sep.new (s:Sep O H)(h:H p=none):Sep (pt p o::O) (upd H p o):=by
 obtain⟨D,k,z⟩:=s;have ne:∀ b,D b->b≠p:=λb hb e=>k b hb (e▸h)
 refine⟨λb=>b=p\/D b,λb hb=>?_,λb=>b=p,D,λb e=>.inl e,λb e=>.inr e,λb e z=>ne b z e,⟨rfl,av⟩,a9.st z (λb hb=>af (ne b hb)) (i6.new h)⟩;rcases hb with rfl|hb
 .rw[av];exact λz=>by cases z
 .rw[af (ne b hb)];exact k b hb
def Sep.nv (s:Sep O H)(h:H p=none):Sep (tu p xs::O) (upd H p (.tup xs)):=Sep.HD av (Sep.drop (s.new (o:=.tup xs) h))
def Sep.toT (s:Sep (pt t (.tup xs)::O) H):Sep (tu t xs::O) H:=Sep.HD s.at s.drop
def Sep.star:Sep (nB A B::O) H ↔ Sep (A::B::O) H:=by
 constructor
 .rintro⟨D,k,D1,D2,s1,s2,dj,⟨E1,E2,t1,t2,ej,k1,k2⟩,h2⟩;refine⟨D,k,E1,λa=>E2 a\/D2 a,λa z=>s1 a (t1 a z),λa z=>z.elim (λz=>s1 a (t2 a z)) (s2 a),λa z1 z2=>?_,k1,E2,D2,λa z=>.inl z,λa z=>.inr z,λa z1 z2=>dj a (t2 a z1) z2,k2,h2⟩;rcases z2 with z2|z2
  .exact ej a z1 z2
  .exact dj a (t1 a z1) z2
 .rintro⟨D,k,D1,D2,s1,s2,dj,h1,E1,E2,t1,t2,ej,k1,k2⟩;refine⟨D,k,λa=>D1 a\/E1 a,E2,λa z=>z.elim (s1 a) λz=>s2 a (t1 a z),λa z=>s2 a (t2 a z),λa z1 z2=>?_,⟨D1,E1,λa z=>.inl z,λa z=>.inr z,λa z1 z2=>dj a z1 (t1 a z2),h1,k1⟩,k2⟩;rcases z1 with z1|z1
  .exact dj a z1 (t2 a z2)
  .exact ej a z1 z2
def Sep.EX {α:Type}{f:α->az}:Sep (ex f::O) H ↔ ∃ x,Sep (f x::O) H:=by
 constructor
 .rintro⟨D,k,D1,D2,s1,s2,dj,⟨x,h1⟩,h2⟩;exact⟨x,D,k,D1,D2,s1,s2,dj,h1,h2⟩
 .rintro⟨x,D,k,D1,D2,s1,s2,dj,h1,h2⟩;exact⟨D,k,D1,D2,s1,s2,dj,⟨x,h1⟩,h2⟩
def Sep.FE (s:Sep (tys xs::O) H):∀ x ∈ xs,∃ t,tyName x H=some t:=let⟨D,k,D1,D2,s1,s2,dj,h1,h2⟩:=s;h1
def Sep.free (h:∀ D,A.p H D) (s:Sep O H):Sep (A::O) H:=let⟨D,k,h2⟩:=s;⟨D,k,λ_=>False,D,λ_ z=>z.elim,λ_ z=>z,λ_ z _=>z,h _,h2⟩
def Sep.GY (h:∀ x ∈ xs,∃ t,tyName x H=some t) (s:Sep O H):Sep (tys xs::O) H:=s.free λ_=>h
def Sep.get (s:Sep O H)(h:ag (pt a o) O Γ'):H a=some o:=(s.pull h).at
def Sep.DW (s:Sep O H)(h:ag (tu t xs) O Γ'):H t=some (.tup xs):=(s.pull h).atT
inductive aJ (A B:az):List az->List az->Prop where
 |e {O:List az}:aJ A B (A::O) (B::O)
 |t {C:az}{O Γ':List az}(h:aJ A B O Γ'):aJ A B (C::O) (C::Γ')
def ag.k1 {b:az}:ag A (b::A::g) (b::g):=.t .e
def ag.k2 {b c:az}:ag A (b::c::A::g) (b::c::g):=.t .k1
def ag.k3 {b c d:az}:ag A (b::c::d::A::g) (b::c::d::g):=.t .k2
def ag.j2 {b c:az}{f:List az}(h:ag A g f):ag A (b::c::g) (b::c::f):=.t (.t h)
def aJ.k1 {b:az}:aJ A B (b::A::g) (b::B::g):=.t .e
def aJ.k2 {b c:az}:aJ A B (b::c::A::g) (b::c::B::g):=.t .k1
def aJ.k3 {b c d:az}:aJ A B (b::c::d::A::g) (b::c::d::B::g):=.t .k2
def aJ.bp (h:aJ A B O Γ'):∃ Δ,ag A O Δ/\ag B Γ' Δ:=by
 induction h with
 |e=>exact⟨_,.e,.e⟩
 |t h ih=>
  obtain⟨Δ,h1,h2⟩:=ih;exact⟨_,.t h1,.t h2⟩
def Sep.put (s:Sep O H)(h:aJ (pt a o) (pt a o') O Γ')(n:kE o'=kE o):Sep Γ' (upd H a o'):=by
 obtain⟨Δ,h1,h2⟩:=h.bp;exact((s.pull h1).set n).push h2
inductive Sub:List az->List az->Prop where
 |refl {O:List az}:Sub O O
 |nil {O:List az}:Sub [] O
 |cons {A:az}{O Γ' Δ:List az}(h:ag A O Δ) (r:Sub Γ' Δ):Sub (A::Γ') O
 |drop {A:az}{O Γ':List az}(r:Sub Γ' O):Sub Γ' (A::O)
def a9.sub:∀ {O Γ':List az}{D:Addr->Prop},Sub Γ' O->a9 O H D->a9 Γ' H D:=by
 intro O Γ' D h
 induction h generalizing D with
 |refl=>exact λz=>z
 |nil=>exact λ_=>True.intro
 |cons h r ih=>
  intro z;obtain⟨D1,D2,s1,s2,dj,h1,h2⟩:=a9.pull h z;exact⟨D1,D2,s1,s2,dj,h1,ih h2⟩
 |drop r ih=>
  rintro⟨D1,D2,s1,s2,dj,h1,h2⟩;exact(ih h2).up s2
def Sep.sub (h:Sub Γ' O)(s:Sep O H):Sep Γ' H:=let⟨D,k,z⟩:=s;⟨D,k,a9.sub h z⟩
end
@[irreducible] noncomputable def aa (T:Tab) (R:Rt) (k f:Nat):Sp:=cG T R k f
def nP:aa=cG:=by
 funext T R k f
 unfold aa
 rfl
variable {Q:VK}
def wc {T:Tab}{R:Rt}{k f:Nat}{d:aq}{vs:List V}{E:XK}(hk:0<k)(hd:T.fns[f]? =some d)(hl:vs.length=d.ps.length)
  (h:wB d.body ⟨T,R,aa T R (k-1),true⟩ { nx:=λ_ H'=>Q .non H',rt:=Q } (λ_=>E) (start d.N vs) H):aa T R k f vs H Q E:=by
 rw[nP]at h⊢;cases k with
 |zero=>exact absurd hk (by decide)
 |succ k=>
  show(match T.fns[f]? with|some d=>_|none=>False);rw[hd];exact⟨hl,h⟩
variable {c:Bool}
def bq {A B:Prop}(h1:c=true->A)(h2:c=false->B):gF c A B:=by
 unfold gF;cases c
 .exact h2 rfl
 .exact h1 rfl
def aG {A B:Prop}(h:c=true)(h1:A):gF c A B:=by subst h;unfold gF;exact h1
def ak {A B:Prop}(h:c=false)(h1:B):gF c A B:=by subst h;unfold gF;exact h1
def Eg {A B:Prop}(h:gF c B A):gF (!c) A B:=by
 unfold gF at h⊢;cases c
 .exact h
 .exact h
def aI {p:Prop} [Decidable p] {A B:Prop}(h1:p->A)(h2:¬ p->B):gF (decide p) A B:=bq (λh=>h1 (of_decide_eq_true h)) λh=>h2 (of_decide_eq_false h)
def ax {i j:Int}{A B:Prop}(h1:i=j->A)(h2:i≠j->B):gF (cJ (.int i) (.int j)) A B:=by
 show gF (i ==j) A B;exact bq (λh=>h1 (by simpa using h)) λh=>h2 (by simpa using h)
variable {dx b:Addr}{n:Nat}{fs:List (Str×V)}{es:List V}{R:Hp->Prop}{fr:Bool}
section
variable {K:W.Frag}{G:Gx}{O Γ':List az}{H:Hp}{Q:VK}{a p:Addr}{o:HO}{xs ys:List V}{v w:V}{i:Int}{f:Str}
def al (s:Sep O H)(h:∀ p H',Sep (pt p o::O) H'->Q (.ref p) H'):∀ p,H p=none->Q (.ref p) (upd H p o):=λp hp=>h p _ (s.new hp)
def g7 {C x:Addr}(s:Sep O H)(h1:H x=none)(h2:H dx=none)(h3:dx≠x):Sep (pt x (.ins C dx [])::pt dx (.own x)::O) (upd (upd H dx (.own x)) x (.ins C dx [])):=(s.new h2).new (by rw[af h3.symm];exact h1)
def dU {dx:Option Addr}{E:XK}(s:Sep O H)(r:aJ (pt a (.exc (G.R.cad n) dx fs true)) (pt a (.exc (G.R.cad n) dx fs false)) O Γ')(ho:G.T.xc.contains n=true)(h:∀ H',Sep Γ' H'->E a H'):
  ∃ b i dx fs,V.ref a=.ref b/\H b=some (.exc (G.R.cad i) dx fs true)/\G.T.xc.contains i=true/\E b (upd H b (.exc (G.R.cad i) dx fs false)):=by
 obtain⟨Δ,h1,h2⟩:=r.bp;exact⟨a,n,dx,fs,rfl,s.get h1,ho,h _ (s.put r rfl)⟩
def Kl (s:Sep O H)(h:∀ p H',Sep (tu p xs::O) H'->Q (.ref p) H'):∀ p,H p=none->Q (.ref p) (upd H p (.tup xs)):=λp hp=>h p _ (s.nv hp)
def qM (s:Sep O H)(hl:es.length<=10000)(h:∀ p H',Sep (pt p (.lst es)::O) H'->Q (.ref p) H'):A9 es H Q:=by unfold A9;exact⟨hl,al s h⟩
def g9 (s:Sep O H)(hl:es.length<=10000)(h:∀ p H',Sep (pt p (.tup es)::O) H'->Q (.ref p) H'):nv es H Q:=by unfold nv;exact⟨hl,al s h⟩
def ba (e:H a=some (.lst xs))(hv:kx xs i=some v)(q:Q v H):oE K (.ref a) (.int i) H Q:=by unfold oE;exact .inl ⟨xs,i,v,rfl,.inl (aY.of e),hv,q⟩
def Ik (e:H a=some (.tup xs))(hv:kx xs i=some v)(q:Q v H):oE K (.ref a) (.int i) H Q:=by unfold oE;exact .inl ⟨xs,i,v,rfl,.inr (aZ.of e),hv,q⟩
def dZ {j:Nat}(s:Sep O H)(r:aJ (pt a (.lst xs)) (pt a (.lst ys)) O Γ')(hj:vH xs.length i=some j)(hx:xs.set j v=ys)(h:∀ H',Sep Γ' H'->R H'):eD (.ref a) (.int i) v H R:=by
 obtain⟨Δ,h1,h2⟩:=r.bp;subst hx;unfold eD;exact .inl ⟨xs,i,j,rfl,s.get h1,hj,h _ (s.put r rfl)⟩
def Fj (e:H a=some (.lst xs))(h0:0<=i)(hv:xs[i.toNat]? =some v)(q:Q v H):vD K (.ref a) (.int i) H Q:=by unfold vD;exact⟨xs,v,aY.of e,h0,hv,q⟩
def cu (e:H a=some (.ins (G.R.cad n) dx fs))(ho:G.T.oc.contains n=true)(hn:G.T.na.contains (n,f)=true)(hl:fs.lookup f=some v)(q:Q v H):qX G f (.ref a) H Q:=by unfold qX;exact⟨a,n,fs,v,rfl,.inl ⟨ho,dx,e⟩,hn,hl,q⟩
def G9 (e:H a=some (.exc (G.R.cad n) (some dx) fs fr))(ho:G.T.xc.contains n=true)(hn:G.T.na.contains (n,f)=true)(hl:fs.lookup f=some v)(q:Q v H):qX G f (.ref a) H Q:=by unfold qX;exact⟨a,n,fs,v,rfl,.inr ⟨ho,dx,fr,e⟩,hn,hl,q⟩
def Im {fs':List (Str×V)}(s:Sep O H)(r:aJ (pt a (.ins (G.R.cad n) dx fs)) (pt a (.ins (G.R.cad n) dx fs')) O Γ')(ho:G.T.oc.contains n=true)(hn:G.T.na.contains (n,f)=true)(hl:fs.length<1000)(hf:cA f v fs=fs')(h:∀ H',Sep Γ' H'->R H'):y9 G f (.ref a) v H R:=by
 obtain⟨Δ,h1,h2⟩:=r.bp;subst hf;unfold y9;exact⟨a,n,rfl,hn,.inl ⟨dx,fs,ho,s.get h1,hl,h _ (s.put r rfl)⟩⟩
def zE {d:Addr}{fs':List (Str×V)}(s:Sep O H)(r:aJ (pt a (.exc (G.R.cad n) (some d) fs fr)) (pt a (.exc (G.R.cad n) (some d) fs' fr)) O Γ')(ho:G.T.xc.contains n=true)(hn:G.T.na.contains (n,f)=true)(hl:fs.length<1000)(hf:cA f v fs=fs')(h:∀ H',Sep Γ' H'->R H'):y9 G f (.ref a) v H R:=by
 obtain⟨Δ,h1,h2⟩:=r.bp;subst hf;unfold y9;exact⟨a,n,rfl,hn,.inr (.inl ⟨d,fs,fr,ho,s.get h1,hl,h _ (s.put r rfl)⟩)⟩
def sU (s:Sep (pt a (.exc (G.R.cad n) none [] fr)::O) H)(ho:G.T.xc.contains n=true)(hn:G.T.na.contains (n,f)=true)(h:∀ d H',Sep (pt a (.exc (G.R.cad n) (some d) [(f,v)] fr)::pt d (.own a)::O) H'->R H'):y9 G f (.ref a) v H R:=by
 unfold y9;refine⟨a,n,rfl,hn,.inr (.inr ⟨fr,ho,s.at,λd hd=>h d _ ?_⟩)⟩;exact((s.new (o:=.own a) hd).pull (.t .e)).set rfl
def cT {n:String}{b:Bool}(ht:tyName v H=some t)(hb:G.T.subB.lookup (t,n)=some b)(q:Q (.bl b) H):kS G (.ty n) v H Q:=by unfold kS;exact .inl ⟨t,b,ht,hb,q⟩
def FZ {j:Nat}{b:Bool}(e:H a=some (.ins (G.R.cad j) dx fs))(ho:G.T.oc.contains j=true)(hb:G.T.sub.lookup (j,n)=some b)(q:Q (.bl b) H):kS G (.own n) (.ref a) H Q:=by unfold kS;exact .inr ⟨a,j,b,rfl,.inl ⟨ho,dx,fs,e⟩,hb,q⟩
def jd (e:H a=some (.lst xs))(q:Q (.int xs.length) H):kG G .len [.ref a] H Q:=by unfold kG;exact⟨_,xs.length,rfl,.inl ⟨xs,aY.of e,rfl⟩,q⟩
def Aj (e:H a=some (.tup xs))(q:Q (.int xs.length) H):kG G .len [.ref a] H Q:=by unfold kG;exact⟨_,xs.length,rfl,.inr ⟨xs,aZ.of e,rfl⟩,q⟩
def CC {j:Int}(hc:G.cm=true)(q:Q (.int (min i j)) H):kG G .min [.int i,.int j] H Q:=by
 unfold kG;refine⟨hc,.inl ⟨i,j,rfl,?_⟩⟩;have e:(if j<i then j else i)=min i j:=by split<;>omega
 rw[e];exact q
def cF (h0:0<=i)(h1:i<n):vH n i=some i.toNat:=by
 unfold vH;rw[if_pos h0,if_pos h1]
def tK (s:Sep O H)(e:H a=some (.lst xs))(h:∀ p H',Sep (pt p (.lst xs)::O) H'->Q (.ref p) H'):kG G .list [.ref a] H Q:=by unfold kG;exact .inl ⟨_,xs,rfl,.inl (aY.of e),al s h⟩
def CV (s:Sep O H)(e:H a=some (.lst xs))(h:∀ p H',Sep (tu p xs::O) H'->Q (.ref p) H'):kG G .tuple [.ref a] H Q:=by unfold kG;exact⟨_,xs,rfl,.inl ⟨aY.of e,Kl s h⟩⟩
def Bv (s:Sep O H)(e1:H a=some (.lst xs))(e2:H b=some (.lst ys))(hl:xs.length+ys.length<=100000)(h:∀ p H',Sep (pt p (.lst (xs++ys))::O) H'->Q (.ref p) H'):Aw K a b H Q:=by unfold Aw;exact .inl ⟨xs,ys,e1,e2,hl,al s h⟩
def Fg (s:Sep O H)(e:H a=some (.lst xs))(h1: -1000<=i)(h2:i<=1000)(h3:xs.length<=1000)(h:∀ p H',Sep (pt p (.lst (re i.toNat xs).flatten)::O) H'->Q (.ref p) H'):zS K a i H Q:=by unfold zS;exact .inl ⟨xs,e,h1,h2,h3,al s h⟩
def wJ {y:V}(s:Sep O H)(r:aJ (pt a (.lst xs)) (pt a (.lst (xs++[y]))) O Γ')(hl:xs.length<=10000)(h:∀ H',Sep Γ' H'->Q .non H'):Fs .append a xs [y] H Q:=by unfold Fs;exact⟨_,rfl,hl,h _ (s.put r rfl)⟩
def IF {lo hi:Option Int}(s:Sep O H)(e:aY K H a xs)(h:∀ p H',Sep (pt p (.lst (nE xs lo hi))::O) H'->Q (.ref p) H'):EU K (.ref a) lo hi H Q:=by unfold EU;exact .inl ⟨xs,e,al s h⟩
def Jh {R:It->Hp->Prop}(e:H a=some (.lst xs))(h:R (EZ K a) H):qE K a H R:=by unfold qE;exact .inl ⟨⟨xs,aY.of e⟩,h⟩
def G1 {R:It->Hp->Prop}(e:H a=some (.lst xs))(h:R (GN a) H):Ab a H R:=by unfold Ab;exact⟨⟨xs,e⟩,h⟩
end
variable {x:V}
section
variable {K:W.Frag}{H:Hp}{Q:VK}
def oO (f:aN x=true):cJ x x=true:=by
 cases x<;>simp[aN]at f<;>simp[cJ]
def mZ {y:V}(fx:aN x=true)(fy:aN y=true)(q:Q (.bl (cJ x y)) H):eE K false x y H Q:=by unfold eE;exact .inr ⟨0,_,.flat fx fy,by decide,.inl fx,q⟩
def zA {y:V}(fx:aN x=true)(fy:aN y=true)(q:Q (.bl (!cJ x y)) H):eE K true x y H Q:=by unfold eE;exact .inr ⟨0,_,.flat fx fy,by decide,.inl fx,q⟩
def vy (h:ff K H n (.ref a) (.ref b) c)(hn:n<=100)(ne:a≠b)(q:Q (.bl c) H):eE K false (.ref a) (.ref b) H Q:=by unfold eE;exact .inr ⟨n,c,h,hn,.inr (.inl λz=>ne (V.ref.inj z)),q⟩
def wA (h:ff K H n (.ref a) (.ref b) c)(hn:n<=100)(ne:a≠b)(q:Q (.bl (!c)) H):eE K true (.ref a) (.ref b) H Q:=by unfold eE;exact .inr ⟨n,c,h,hn,.inr (.inl λz=>ne (V.ref.inj z)),q⟩
def E7 (h:IB K H a b)(q:Q (.bl true) H):eE K false (.ref a) (.ref b) H Q:=by unfold eE;exact .inl ⟨rfl,a,b,rfl,rfl,h,q⟩
def dO (h:tyName x H=some t):ff K H (n+1) x x true:=by
 have key:aN x=true->ff K H (n+1) x x true:=λf=>by
  have:=ff.flat (K:=K) (H:=H) (n:=n+1) f f
  rwa [oO f]at this
 cases x<;>first|exact key rfl|exact .same _|(cases h)
def all_true (n:Nat):(List.range n).all (λ_=>true)=true:=by simp
def fY (h1:H a=some (.lst xs))(h2:H b=some (.lst xs))(h:∀ x ∈ xs,∃ t,tyName x H=some t):ff K H (n+2) (.ref a) (.ref b) true:=by
 have:=ff.ll (K:=K) (n:=n) (e:=λ_=>true) (aY.of h1) (aY.of h2) rfl λj x y e1 e2=>by
  rw[e1]at e2;cases e2;obtain⟨t,ht⟩:=h x (cr e1);exact dO ht
 rwa [all_true]at this
def qH {ys:List V}(h1:H a=some (.tup xs))(h2:H b=some (.tup ys))(hl:xs.length=ys.length)(h:∀ (j:Nat) x y,xs[j]? =some x->ys[j]? =some y->ff K H (n+1) x y true):ff K H (n+2) (.ref a) (.ref b) true:=by
 have:=ff.tt (K:=K) (n:=n) (e:=λ_=>true) (aZ.of h1) (aZ.of h2) h;rw[all_true,hl]at this;simpa using this
end
variable {K:W.Frag}{rest:St}{te:TE}
section
variable {D:Ends}{F:(St->Hp->Prop)->V->St->Hp->Prop}{U:St}{H:Hp}
def d9 {lo:Int}(I:Nat->St->Hp->Prop)(h0:I 0 U H)(hs:∀ j U H,j<n->I j U H->F (I (j+1)) (.int (lo+j)) U H) (hd:∀ U H,I n U H->D.nx U H):kI (BY lo n) D F U H:=by
 unfold kI;refine⟨λi m U H=>m=n-i/\i<=n/\I i U H,⟨n,by simp,Nat.zero_le _,h0⟩,λi m U H ⟨e,hi,h⟩=>?_⟩
 by_cases hlt:i<n
 .refine .inr ⟨hlt,I (i+1),λσ' H' h'=>⟨n-(i+1),by omega,rfl,hlt,h'⟩,λx H' y=>?_⟩;obtain⟨rfl,rfl⟩:=y;exact hs i U H' hlt h
 .have:i=n:=by omega
  subst this;exact .inl ⟨pc _,hd U H h⟩
def l0 (I:Nat->St->Hp->Prop)(h0:I 0 U H)(hl:∀ j U H,I j U H->aY K H a xs)
  (hs:∀ j x U H,xs[j]? =some x->I j U H->F (I (j+1)) x U H) (hd:∀ U H,I xs.length U H->D.nx U H):kI (EZ K a) D F U H:=by
 unfold kI;refine⟨λi m U H=>m=xs.length-i/\i<=xs.length/\I i U H,⟨xs.length,by simp,Nat.zero_le _,h0⟩,λi m U H ⟨e,hi',h⟩=>?_⟩
 by_cases hlt:i<xs.length
 .refine .inr ⟨⟨xs,xs[i],hl i U H h,le hlt⟩,I (i+1),λσ' H' h'=>⟨xs.length-(i+1),by omega,rfl,hlt,h'⟩,λx H' y=>?_⟩;obtain⟨rfl,hy⟩:=y;exact hs i x U H' (hy xs (hl i U H' h)) h
 .have:i=xs.length:=by omega
  subst this;exact .inl ⟨⟨xs,hl _ U H h,pc _⟩,hd U H h⟩
def rQ (I:Nat->St->Hp->Prop)(h0:I 0 U H)(hl:∀ j U H,I j U H->H a=some (.lst xs)) (hs:∀ j x T U H,xs[j]? =some x->I j U H->H T=none->F (I (j+1)) (.ref T) U (upd H T (.tup [.int j,x])))
  (hd:∀ U H,I xs.length U H->D.nx U H):kI (GN a) D F U H:=by
 unfold kI;refine⟨λi m U H=>m=xs.length-i/\i<=xs.length/\I i U H,⟨xs.length,by simp,Nat.zero_le _,h0⟩,λi m U H ⟨e,hi',h⟩=>?_⟩
 by_cases hlt:i<xs.length
 .refine .inr ⟨⟨xs,xs[i],hl i U H h,le hlt⟩,I (i+1),λσ' H' h'=>⟨xs.length-(i+1),by omega,rfl,hlt,h'⟩,λx H' y=>?_⟩;obtain⟨T,z,hT,rfl,rfl,hy⟩:=y;exact hs i z T U H (hy xs (hl i U H h)) h hT
 .have:i=xs.length:=by omega
  subst this;exact .inl ⟨⟨xs,hl _ U H h,pc _⟩,hd U H h⟩
@[irreducible] noncomputable def tO (I:Addr->List V->Hp->Prop) (D:Addr) (ys:List V) (rest:St) (x:Option V):VK:=λv H3=>∃ zs,H3 D=some (.lst zs)/\zs.length<bn/\∃ ys2 x2,x::rest=x2::rest/\ys2.length=ys.length+1/\I D ys2 (upd H3 D (.lst (zs++[v])))
def tO.mk {I:Addr->List V->Hp->Prop}{D:Addr}{ys:List V}{x:Option V}{v:V}{H3:Hp}(h1:H3 D=some (.lst ys))(hl:ys.length<=999)(h2:I D (ys++[v]) (upd H3 D (.lst (ys++[v])))):tO I D ys rest x v H3:=
 by unfold tO;exact⟨ys,h1,eg nofun,ys++[v],x,rfl,by simp,h2⟩
def Cw (hn:n<=1000)(I:Addr->List V->Hp->Prop)(h0:∀ D,H D=none->I D [] (upd H D (.lst [])))
  (hs:∀ D ys H',ys.length<n->I D ys H'->te (some (.int (0+(ys.length:Nat)))::rest) H' (tO I D ys rest (some (.int (0+(ys.length:Nat))))))
  (hd:∀ D ys H',ys.length=n->I D ys H'->Q (.ref D) H'):yz te (BY 0 n) (none::rest) H Q:=by
 unfold yz;intro D hD;refine⟨λi m σ' H'=>m=n-i/\i<=n/\∃ ys x0,σ'=x0::rest/\ys.length=i/\I D ys H',⟨n,by simp,Nat.zero_le _,[],none,rfl,rfl,h0 D hD⟩,λi m σ' H' ⟨e,hi,ys,x0,e1,e2,h⟩=>?_⟩;subst e1 e2
 by_cases hlt:ys.length<n
 .refine .inr ⟨hlt,λσ2 H2=>∃ ys2 x2,σ2=x2::rest/\ys2.length=ys.length+1/\I D ys2 H2,λσ2 H2 ⟨ys2,x2,f1,f2,f3⟩=>⟨n-(ys.length+1),by omega,rfl,hlt,ys2,x2,f1,f2,f3⟩,λx H'' y=>?_⟩;obtain⟨e1,e2⟩:=y;subst e1 e2;have z:=hs D ys H'' hlt h;unfold tO at z;exact z
 .have:ys.length=n:=by omega
  exact .inl ⟨Nat.le_of_eq this.symm,hd D ys H' this h⟩
def xC (hn:xs.length<=1000)(I:Addr->List V->Hp->Prop)(hl:∀ D ys H,I D ys H->aY K H a xs) (h0:∀ D,H D=none->I D [] (upd H D (.lst [])))
  (hs:∀ D ys x H',xs[ys.length]? =some x->I D ys H'->te (some x::rest) H' (tO I D ys rest (some x)))
  (hd:∀ D ys H',ys.length=xs.length->I D ys H'->Q (.ref D) H'):yz te (EZ K a) (none::rest) H Q:=by
 unfold yz;intro D hD;refine⟨λi m σ' H'=>m=xs.length-i/\i<=xs.length/\∃ ys x0,σ'=x0::rest/\ys.length=i/\I D ys H',⟨xs.length,by simp,Nat.zero_le _,[],none,rfl,rfl,h0 D hD⟩,λi m σ' H' ⟨e,hi,ys,x0,e1,e2,h⟩=>?_⟩;subst e1 e2
 by_cases hlt:ys.length<xs.length
 .refine .inr ⟨⟨xs,xs[ys.length],hl D ys H' h,le hlt⟩,λσ2 H2=>∃ ys2 x2,σ2=x2::rest/\ys2.length=ys.length+1/\I D ys2 H2,λσ2 H2 ⟨ys2,x2,f1,f2,f3⟩=>⟨xs.length-(ys.length+1),by omega,rfl,hlt,ys2,x2,f1,f2,f3⟩,λx H'' y=>?_⟩;obtain⟨e1,hy⟩:=y;subst e1;have z:=hs D ys x H'' (hy xs (hl D ys H'' h)) h;unfold tO at z;exact z
 .have:ys.length=xs.length:=by omega
  exact .inl ⟨⟨xs,hl D ys H' h,Nat.le_of_eq this.symm⟩,hd D ys H' this h⟩
def En {K:W.Frag}{G:Gx}{bs:List Bool}(hc:G.cm=true)(e:H a=some (.lst (bs.map V.bl)))(q:Q (.bl (bs.all id)) H):kG G .all [.ref a] H Q:=by unfold kG;exact⟨hc,_,bs,rfl,aY.of e,q⟩
def gI (q:Q (.bl (decide (x=.non))) H):yG false x .non H Q:=by unfold yG;exact q
def bt (q:Q (.bl (!decide (x=.non))) H):yG true x .non H Q:=by unfold yG;exact q
def eG (e:aZ K H a xs)(fx:aN x=true)(fs:xs.all aN=true)(q:Q (.bl (E0 x xs)) H):GS K false x (.ref a) H Q:=by unfold GS;exact .inl ⟨xs,.inr e,fx,fs,q⟩
end
variable {kvs:List (Key×V)}
section
variable {K:W.Frag}{G:Gx}{O Γ':List az}{H:Hp}{Q:VK}{a b:Addr}{xs ys:List V}{v:V}
def Ib {tp1 tp2:Bool}{R:It->Hp->Prop}(h1:Sq K tp1 H a xs)(h2:Sq K tp2 H b ys)(h:R (HI K tp1 a tp2 b) H):yV K (.ref a) (.ref b) H R:=by unfold yV;exact⟨tp1,a,tp2,b,rfl,rfl,⟨xs,h1⟩,⟨ys,h2⟩,h⟩
def AF {D:Ends}{F:(St->Hp->Prop)->V->St->Hp->Prop}{U:St}{tp1 tp2:Bool}(I:Nat->St->Hp->Prop)(hn:xs.length=ys.length)(h0:I 0 U H)(hl:∀ j U H,I j U H->Sq K tp1 H a xs/\Sq K tp2 H b ys)
  (hs:∀ j x y T U H,xs[j]? =some x->ys[j]? =some y->I j U H->H T=none->F (I (j+1)) (.ref T) U (upd H T (.tup [x,y]))) (hd:∀ U H,I xs.length U H->D.nx U H):kI (HI K tp1 a tp2 b) D F U H:=by
 unfold kI;refine⟨λi m U H=>m=xs.length-i/\i<=xs.length/\I i U H,⟨xs.length,by simp,Nat.zero_le _,h0⟩,λi m U H ⟨e,hi',h⟩=>?_⟩
 by_cases hlt:i<xs.length
 .obtain⟨g1,g2⟩:=hl i U H h;refine .inr ⟨⟨xs,ys,xs[i],ys[i]'(hn▸hlt),g1,g2,le hlt,le (hn▸hlt)⟩,I (i+1),λσ' H' h'=>⟨xs.length-(i+1),by omega,rfl,hlt,h'⟩,λx H' y=>?_⟩;obtain⟨T,z,z',hT,rfl,rfl,hy,hy'⟩:=y;exact hs i z z' T U H (hy xs g1) (hy' ys g2) h hT
 .have:i=xs.length:=by omega
  subst this;obtain⟨g1,g2⟩:=hl _ U H h;exact .inl ⟨⟨xs,ys,g1,g2,.inl (pc _)⟩,hd U H h⟩
def GD {tp1 tp2:Bool}{ks:List Key}(s:Sep O H)(h1:Sq K tp1 H a (ks.map kV))(h2:Sq K tp2 H b ys)(hn:ks.Nodup)(hl:ks.length=ys.length)(hz:ks.length<=1000)(h:∀ p H',Sep (pt p (.dK (ks.zip ys))::O) H'->Q (.ref p) H'):GI K (.ref a) (.ref b) H Q:=by unfold GI;exact⟨tp1,a,tp2,b,ks,ys,rfl,rfl,h1,h2,hn,hl,hz,al s h⟩
def lR {k:Key}(e:H a=some (.dK kvs))(hv:i7 kvs k=some v)(q:Q v H):oE K (.ref a) (kV k) H Q:=by unfold oE;exact .inr ⟨v,.inl ⟨kvs,k,.inl e,rfl,hv.symm⟩,q⟩
def B7 {kvs':List (Key×V)}{k:Key}(s:Sep O H)(r:aJ (pt a (.dK kvs)) (pt a (.dK kvs')) O Γ')(hl:kvs.length<=10000)(hx:putK kvs k v=kvs')(h:∀ H',Sep Γ' H'->R H'):eD (.ref a) (kV k) v H R:=by
 obtain⟨Δ,h1,h2⟩:=r.bp;subst hx;unfold eD;exact .inr ⟨_,.inl ⟨kvs,k,s.get h1,rfl,Nat.lt_of_le_of_lt hl (by decide),rfl⟩,h _ (s.put r rfl)⟩
def sP (s:Sep O H)(e:H a=some (.dK kvs))(h:∀ p H',Sep (pt p (.dK kvs)::O) H'->Q (.ref p) H'):kG G .dict [.ref a] H Q:=by unfold kG;exact⟨_,kvs,rfl,e,al s h⟩
def EM (hn:xs.length<=1000)(I:Addr->List V->Hp->Prop)(hl:∀ D ys H,I D ys H->aZ K H a xs) (h0:∀ D,H D=none->I D [] (upd H D (.lst [])))
  (hs:∀ D ys x H',xs[ys.length]? =some x->I D ys H'->te (some x::rest) H' (tO I D ys rest (some x)))
  (hd:∀ D ys H',ys.length=xs.length->I D ys H'->Q (.ref D) H'):yz te (F8 K a) (none::rest) H Q:=by
 unfold yz;intro D hD;refine⟨λi m σ' H'=>m=xs.length-i/\i<=xs.length/\∃ ys x0,σ'=x0::rest/\ys.length=i/\I D ys H',⟨xs.length,by simp,Nat.zero_le _,[],none,rfl,rfl,h0 D hD⟩,λi m σ' H' ⟨e,hi,ys,x0,e1,e2,h⟩=>?_⟩;subst e1 e2
 by_cases hlt:ys.length<xs.length
 .refine .inr ⟨⟨xs,xs[ys.length],hl D ys H' h,le hlt⟩,λσ2 H2=>∃ ys2 x2,σ2=x2::rest/\ys2.length=ys.length+1/\I D ys2 H2,λσ2 H2 ⟨ys2,x2,f1,f2,f3⟩=>⟨xs.length-(ys.length+1),by omega,rfl,hlt,ys2,x2,f1,f2,f3⟩,λx H'' y=>?_⟩;obtain⟨e1,hy⟩:=y;subst e1;have z:=hs D ys x H'' (hy xs (hl D ys H'' h)) h;unfold tO at z;exact z
 .have:ys.length=xs.length:=by omega
  exact .inl ⟨⟨xs,hl D ys H' h,Nat.le_of_eq this.symm⟩,hd D ys H' this h⟩
def Ga {R:It->Hp->Prop}(e:aZ K H a xs)(h:R (F8 K a) H):qE K a H R:=by unfold qE;exact .inr (.inl ⟨⟨xs,e⟩,h⟩)
def Ip {C:Addr}(s:Sep O H)(h:∀ x dx H',Sep (pt x (.ins C dx [])::pt dx (.own x)::O) H'->Q (.ref x) H'):wo C H Q:=by unfold wo;exact λx dx h1 h2 h3=>h x dx _ (g7 s h1 h2 h3)
end
end L3
namespace L3
open PySem PySem.Spec PySem.W L2
variable {ps:List Str}
def yn:∀ {us:List Value}{n:Str},us.length=ps.length->n ∈ ps->((ps.zip us).lookup n).isNone=false:=by
 induction ps with
 |nil=>intro us n _ h;cases h
 |cons p ps ih=>
  intro us n hl h;cases us with
  |nil=>cases hl
  |cons u us=>
   rw[zip_cons_cons,lookup_cons];cases e:n ==p with
   |true=>rfl
   |false=>
    rcases li.mp h with rfl|h
    .rw[beq_self_eq_true]at e;cases e
    .exact ih (Nat.succ.inj hl) h
def qa:∀ {ps:List Str}{us:List Value},ps.Nodup->us.length=ps.length->∀ {L:List (Str×Value)},(∀ n ∈ ps,L.lookup n=(ps.zip us).lookup n)->ps.filterMap (λn=>(L.lookup n).map (n,·))=ps.zip us
 | [],us,_,_,L,_=>rfl
 |p::ps,[],_,hl,L,_=>by cases hl
 |p::ps,u::us,nd,hl,L,hL=>by
  have h0:L.lookup p=some u:=by rw[hL p lf,zip_cons_cons,lookup_cons,beq_self_eq_true]
  rw[filterMap_cons,h0,zip_cons_cons];show(p,u)::_=_;rw[qa (nodup_cons.mp nd).2 (Nat.succ.inj hl) (L:=L)];intro n hn;rw[hL n (dl _ hn),zip_cons_cons,lookup_cons];have:(n ==p)=false:=by
   cases e:n ==p with
   |false=>rfl
   |true=>
    have:=beq_iff_eq.mp e;subst this;exact absurd hn (nodup_cons.mp nd).1
  rw[this]
variable {fd:FuncData}
def pQ (nd:ps.Nodup)(h1:fd.params.posonlyargs=[])(h2:fd.params.args.map (·.arg)=ps)(h3:fd.params.kwonlyargs=[])(h4:fd.params.vararg=none)(h5:fd.params.kwarg=none)(h6:fd.defaults=.none)(us:List Value)(hl:us.length=ps.length):
  bindArgs fd ⟨us,[]⟩=pure (ps.zip us):=by
 obtain⟨name,qual,⟨po,as,va,ko,kd,ka,df⟩,body,scope,glo,bS,dV,kV,doc,pm,an,cdv,ct,bu⟩:=fd;dsimp only at h1 h2 h3 h4 h5 h6;subst h1 h2 h3 h4 h5 h6;generalize hps:as.map (·.arg)=ps at nd hl⊢;have e1:seqItems? (Value.none)=(pure none:Sem (Option (Array Value))):=rfl;have e2:∀ f:Str->Bool,(∀ n ∈ ps,f n=false)->ps.filter f=[]:=λf h=>List.filter_eq_nil_iff.mpr λa ha=>by rw[h a ha];decide
 have e3:¬ (us.length>ps.length):=by omega
 have e4:=e2 (λn=>((ps.zip us).lookup n).isNone) λn hn=>yn hl hn
 have e5:=qa nd hl (L:=ps.zip us) λ_ _=>rfl
 unfold bindArgs;dsimp only[List.map_nil,nil_append,append_nil];rw[hps];simp[e1,e3,e4,e5]
abbrev gD (S:List (Str×Value))(x:Str×Value):List (Str×Value):=if(S.lookup x.1).isNone=true then S++[x] else S
def Ca:∀ {L:List (Str×Value)}{S:List (Str×Value)},(∀ x ∈ L,(S.lookup x.1).isNone=false)->L.foldl gD S=S
 | [],_,_=>rfl
 |x::L,S,h=>by
  have h0:gD S x=S:=by
   unfold gD;rw[if_neg (by rw[h x lf];decide)]
  rw[foldl_cons,h0];exact Ca λy hy=>h y (dl _ hy)
def B9:∀ {L:List (Str×Value)}{S:List (Str×Value)},(L.map (·.1)).Nodup->(∀ x ∈ L,S.lookup x.1=none)->L.foldl gD S=S++L
 | [],S,_,_=>by rw[append_nil];rfl
 |x::L,S,nd,h=>by
  have h0:gD S x=S++[x]:=by
   unfold gD;rw[if_pos (by rw[h x lf];rfl)]
  rw[map_cons]at nd;rw[foldl_cons,h0,B9 (nodup_cons.mp nd).2]
  .rw[jp];rfl
  .intro y hy;have hne:(y.1 ==x.1)=false:=by
    cases e:y.1 ==x.1 with
    |false=>rfl
    |true=>
     have e:=beq_iff_eq.mp e;exact absurd (List.mem_map_of_mem (f:=(·.1)) hy) (e▸(nodup_cons.mp nd).1)
   obtain⟨a,b⟩:=x;rw[List.lookup_append,h y (dl _ hy),lookup_cons,hne]
   rfl
def BN {n:Str}:∀ {L:List (Str×Value)},(∀ x ∈ L,x.1≠n)->L.lookup n=none
 | [],_=>rfl
 |(a,b)::L,h=>by
  have:(n ==a)=false:=by
   cases e:n ==a with
   |false=>rfl
   |true=>exact absurd (beq_iff_eq.mp e).symm (h (a,b) lf)
  rw[lookup_cons,this];exact BN λx hx=>h x (dl _ hx)
variable {A:List Str}{B:List Value}
def mW {x:Str×Value}(h:x ∈ A.zip B):x.1 ∈ A:=by
 obtain⟨a,b⟩:=x;exact(of_mem_zip h).1
def zip_map (h:A.length<=B.length):(A.zip B).map (·.1)=A:=List.map_fst_zip h
def mx {B:List Str}{us:List Value}(h:A.length=us.length):(A++B).zip us=A.zip us:=by
 have:=zip_append (l₁:=A) (l₂:=us) (r₁:=B) (r₂:=[]) h;rw[append_nil,List.zip_nil_right,append_nil]at this;exact this
def yW {B:List Str}{us D1 D2:List Value}(nd:(A++B).Nodup)(h1:A.length=us.length)(h2:B.length=D2.length)(h3:D1.length<=A.length):
  (((A++B).drop (A.length-D1.length)).zip (D1++D2)).foldl gD ((A++B).zip us)=(A++B).zip (us++D2):=by
 have a:=Ca (L:=(A.drop (A.length-D1.length)).zip D1) (S:=(A++B).zip us) λx hx=>by
  rw[mx h1];exact yn h1.symm (List.mem_of_mem_drop (mW hx))
 have b:=B9 (L:=B.zip D2) (S:=(A++B).zip us) (by rw[zip_map nofun];exact(List.nodup_append.mp nd).2.1) λx hx=>by
  refine BN λy hy e=>?_
  rw[mx h1]at hy;exact(List.nodup_append.mp nd).2.2 y.1 (mW hy) x.1 (mW hx) e
 rw[List.drop_append_of_le_length nofun,zip_append (by rw[io];omega),List.foldl_append,a,b,mx h1,zip_append h1]
def vJ {us ds:List Value}(nd:ps.Nodup)(h1:us.length<=ps.length)(h2:ds.length<=ps.length)(h3:ps.length<=us.length+ds.length):
  ((ps.drop (ps.length-ds.length)).zip ds).foldl gD (ps.zip us)=ps.zip (us++ds.drop (us.length+ds.length-ps.length)):=by
 have nd2:(ps.take us.length++ps.drop us.length).Nodup:=by rw[take_append_drop];exact nd
 have:=yW (A:=ps.take us.length) (B:=ps.drop us.length) (us:=us) (D1:=ds.take (us.length+ds.length-ps.length)) (D2:=ds.drop (us.length+ds.length-ps.length)) nd2 (by rw[db];omega) (by rw[io,io];omega) (by rw[db,db];omega);rw[take_append_drop,take_append_drop,db,db]at this;rw[show min us.length ps.length-min (us.length+ds.length-ps.length) ds.length=ps.length-ds.length by omega]at this;exact this
def oa:∀ {L:List (Str×Value)}{S:List (Str×Value)},(forIn L S λx r=>(match x with|(name,d)=>if(r.lookup name).isNone=true then pure (ForInStep.yield (r++[(name,d)])) else pure (ForInStep.yield r):Sem (ForInStep (List (Str×Value)))))=pure (L.foldl gD S)
 | [],S=>by simp
 |(a,b)::L,S=>by
  rw[forIn_cons,foldl_cons,<-oa];unfold gD
  by_cases e:(S.lookup a).isNone=true
  .simp only[e,if_true,pure_bind]
  .simp only[e,if_false,pure_bind,Bool.false_eq_true]
def vw {T:Addr}{items:Array Value}(nd:ps.Nodup)(h1:fd.params.posonlyargs=[])(h2:fd.params.args.map (·.arg)=ps)(h3:fd.params.kwonlyargs=[])(h4:fd.params.vararg=none)(h5:fd.params.kwarg=none)(h6:fd.defaults=.ref T)(us:List Value)(l1:us.length<=ps.length)(l2:items.toList.length<=ps.length)(l3:ps.length<=us.length+items.toList.length):
  ∃ k:Option (Array Value)->Sem (List (Str×Value)),bindArgs fd ⟨us,[]⟩=seqItems? fd.defaults >>= k/\k (some items)=pure (ps.zip (us++items.toList.drop (us.length+items.toList.length-ps.length))):=by
 obtain⟨name,qual,⟨po,as,va,ko,kd,ka,df⟩,body,scope,glo,bS,dV,kV,doc,pm,an,cdv,ct,bu⟩:=fd;dsimp only at h1 h2 h3 h4 h5 h6;subst h1 h2 h3 h4 h5 h6;generalize hps:as.map (·.arg)=ps at nd l1 l2 l3⊢;have e2:∀ f:Str->Bool,(∀ n ∈ ps.take (ps.length-items.toList.length),f n=false)->(ps.take (ps.length-items.toList.length)).filter f=[]:=λf h=>List.filter_eq_nil_iff.mpr λa ha=>by rw[h a ha];decide
 have e3:¬ (us.length>ps.length):=by omega
 have ez:ps.zip us=(ps.take us.length).zip us:=by
  have:=mx (A:=ps.take us.length) (B:=ps.drop us.length) (us:=us) (by rw[db];omega);rw[take_append_drop]at this;exact this
 have e4:=e2 (λn=>((ps.zip us).lookup n).isNone) λn hn=>by
  rw[ez];refine yn (by rw[db];omega) ?_;have:ps.take (ps.length-items.toList.length)=(ps.take us.length).take (ps.length-items.toList.length):=by rw[List.take_take,Nat.min_eq_left nofun]
  rw[this]at hn;exact List.mem_of_mem_take hn
 have e6:=vJ (us:=us) (ds:=items.toList) nd l1 l2 l3;have e5:=qa (us:=us++items.toList.drop (us.length+items.toList.length-ps.length)) nd (by rw[ci,io];omega) λ_ _=>rfl
 have e7:items.toList.length-ps.length=0:=by omega
 unfold bindArgs;dsimp only[List.map_nil,nil_append,append_nil];rw[hps];refine⟨_,rfl,?_⟩;simp only[Option.getD_some,List.map_nil,nil_append,e7,drop_zero,e4,e3,List.isEmpty_nil,Bool.not_true,decide_false,Bool.false_and,Bool.false_eq_true,if_false,forIn_nil,append_nil];rw[oa,e6,pure_bind,pure_bind];simp only[e5,List.isEmpty_nil,Bool.not_true,Bool.false_eq_true,if_false]
abbrev BM (x:Option (Option Value))(a:Addr):Bool:=match x with
 |some (some (.ref b))=>b ==a
 |_=>false
variable {x:Option (Option Value)}
def fj {a:Addr}(h:BM x a=true):x=some (some (.ref a)):=by
 unfold BM at h
 split at h
 .rw[beq_iff_eq.mp h]
 .cases h
abbrev sD (x:Option (Option Value))(a:String):Bool:=match x with
 |some (some (.builtin b))=>b ==a
 |_=>false
variable {a:String}
def b9 (h:sD x a=true):x=some (some (.builtin a)):=by
 unfold sD at h
 split at h
 .rw[beq_iff_eq.mp h]
 .cases h
abbrev Ia (x:Option Value)(a:String):Bool:=match x with
 |some (.type b)=>b ==a
 |_=>false
def EB {x:Option Value}(h:Ia x a=true):x=some (.type a):=by
 unfold Ia at h
 split at h
 .rw[beq_iff_eq.mp h]
 .cases h
abbrev wM (x:Option (Option Value)):Bool:=match x with
 |some none=>true
 |_=>false
def lX (h:wM x=true):x=some none:=by
 unfold wM at h
 split at h
 .rfl
 .cases h
abbrev zR (x:Option Bool)(b:Bool):Bool:=match x with
 |some c=>c ==b
 |none=>false
def dP {x:Option Bool}{b:Bool}(h:zR x b=true):x=some b:=by
 unfold zR at h
 split at h
 .rw[beq_iff_eq.mp h]
 .cases h
abbrev IX (v:V)(x:Option (Option Value)):Bool:=match v,x with
 | .int i,some (some (.int j _))=>i ==j
 | .str s,some (some (.str s' _))=>s ==s'
 | .ref a,y=>BM y a
 |_,_=>false
def D7 {v:V}(h:IX v x=true):∃ u,x=some (some u)/\RelV v u:=by
 unfold IX at h
 split at h
 .rw[<-beq_iff_eq.mp h];exact⟨_,rfl,_,rfl⟩
 .rw[<-beq_iff_eq.mp h];exact⟨_,rfl,_,rfl⟩
 .rw[fj h];exact⟨_,rfl,rfl⟩
 .cases h
section
variable (K:Frag) (C:Addr)
abbrev ze:Bool:=plainGet K C Str.empty&&(hasDictIn K C&&(plainOver K C&&sD (findIn K (.ref C) "__setattr__") "object.__setattr__"))
def rY {K:Frag}{C:Addr}(h:ze K C=true):zT K C:=by
 unfold ze at h;simp only[lw]at h;exact⟨h.1,h.2.1,h.2.2.1,b9 h.2.2.2⟩
abbrev zw:Bool:=sD (findIn K (.ref C) "__class__") "object.__class__"&&(sD (specialIn K (.builtin "object.__class__") "__get__") "getset_descriptor.__get__"&&zR (takesIn K (.builtin "object.__class__")) true)
abbrev pI:Bool:=Ia (typeIn K (.ref C)) "type"&&((clsIn K C).any (λcd=>cY cd.mro)&&(hasDictIn K C&&(sD (findIn K (.ref C) "__getattribute__") "BaseException.__getattribute__"&&(wM (findIn K (.ref C) "__getattr__")&&sD (findIn K (.ref C) "__setattr__") "object.__setattr__"))))
def jR {K:Frag}{C:Addr}(h:pI K C=true):cz K C:=by
 unfold pI at h;simp only[lw]at h;exact⟨EB h.1,h.2.1,h.2.2.1,b9 h.2.2.2.1,lX h.2.2.2.2.1,b9 h.2.2.2.2.2⟩
end
abbrev all2 {α:Type}(l:List α)(p:α->Bool):Bool:=match l with
 | []=>true
 |a::r=>p a&&all2 r p
def aA {α:Type}{p:α->Bool}:∀ {l:List α},all2 l p=true->∀ a ∈ l,p a=true
 | [],_,_,h=>by cases h
 |a::r,h,b,hb=>by
  unfold all2 at h;rw[lw]at h;rcases li.mp hb with rfl|hb
  .exact h.1
  .exact aA h.2 b hb
abbrev DZ (K:Frag)(fs cs:List Addr)(gs:List (Str×V)):Rt:=⟨K,λi=>fs.getD i 0,λi=>cs.getD i 0,λx=>gs.lookup x⟩
section
variable (K:Frag) (T:Tab) (fs cs:List Addr) (gs:List (Str×V))
abbrev y8:Bool:=
 (all2 T.gfn (λp=>BM (nsIn K mainGlobals p.1) (fs.getD p.2 0)&&(keepIn K (.ref (fs.getD p.2 0))&&(T.fns[p.2]?).isSome))&&
 (all2 T.gcl (λp=>BM (nsIn K mainGlobals p.1) (cs.getD p.2 0))&&
 (all2 T.gbl (λx=>wM (nsIn K mainGlobals x)&& !(x ==("__name__":Str)))&&
 (all2 T.gbi (λx=>match nsIn K mainGlobals x with
  |some (some (.ref B))=>sD (specialIn K (.ref B) "__getattribute__") "type.__getattribute__"&&(readsIn K B (.type "type")&&(match findCls K (.ref B) (.type "type") "__init__" with|some (.val (.builtin n))=>n =="ValueError.__init__"|_=>false))
  |_=>false)&&
 (all2 gs (λp=>IX p.2 (nsIn K mainGlobals p.1))&&
 (all2 T.na (λp=>wM (findIn K (.ref (cs.getD p.1 0)) p.2))&&
 (all2 T.me (λp=>ze K (cs.getD p.1.1 0)&&(BM (findIn K (.ref (cs.getD p.1.1 0)) p.1.2) (fs.getD p.2 0)&&(isFn K (.ref (fs.getD p.2 0))&&(keepIn K (.ref (fs.getD p.2 0))&&(T.fns[p.2]?).isSome)))))))))))&&
 (all2 T.ini0 (λc=>bR K (cs.getD c 0)&&(sD (findIn K (.ref (cs.getD c 0)) "__init__") "ValueError.__init__"&&(keepIn K (.ref (cs.getD c 0))&&pI K (cs.getD c 0))))&&
 (all2 T.inip (λc=>makesIn K (cs.getD c 0)&&(sD (findIn K (.ref (cs.getD c 0)) "__init__") "object.__init__"&&keepIn K (.ref (cs.getD c 0))))&&
 (all2 T.ini (λp=>(T.fns[p.2]?).isSome&&((if T.xc.contains p.1=true then bR K (cs.getD p.1 0) else makesIn K (cs.getD p.1 0))&&(BM (findIn K (.ref (cs.getD p.1 0)) "__init__") (fs.getD p.2 0)&&(isFn K (.ref (fs.getD p.2 0))&&keepIn K (.ref (cs.getD p.1 0))))))&&
 (all2 T.oc (λc=>ze K (cs.getD c 0)&&(zw K (cs.getD c 0)&&zR (mroIn K (cs.getD c 0) (.type "object")) true))&&
 (all2 T.xc (λc=>pI K (cs.getD c 0)&&zw K (cs.getD c 0))&&
 (all2 T.sub (λp=>zR (kitOne K (.ref (cs.getD p.1.1 0)) (.ref (cs.getD p.1.2 0))) p.2&&(!T.xc.contains p.1.1||(zR (mroIn K (cs.getD p.1.1 0) (.ref (cs.getD p.1.2 0))) p.2&&pI K (cs.getD p.1.2 0))))&&
 (all2 T.subT (λp=>zR (kitOne K (.ref (cs.getD p.1.1 0)) (.type p.1.2)) p.2)&&
 (all2 T.subB (λp=>zR (kitOne K (.type p.1.1) (.type p.1.2)) p.2)&&
 (all2 T.subO (λp=>zR (kitOne K (.type p.1.1) (.ref (cs.getD p.1.2 0))) p.2)&&
  all2 T.cin (λp=>sD (specialIn K (.ref (cs.getD p.1 0)) "__getattribute__") "type.__getattribute__"&&(readsIn K (cs.getD p.1 0) (.type "type")&&((match findCls K (.ref (cs.getD p.1 0)) (.type "type") "__init__" with|some (.val (.ref f))=>f ==fs.getD p.2 0|_=>false)&&(keepIn K (.ref (fs.getD p.2 0))&&(T.fns[p.2]?).isSome)))))))))))))
end
def ji {α:Type}{x:Option α}(h:x.isSome=true):∃ d,x=some d:=Option.isSome_iff_exists.mp h
variable {K:Frag}{T:Tab}{fs:List Addr}{gs:List (Str×V)}{mg:KH}
def yN {cs:List Addr}{h:Heap}(X:K.In h)(G:h.Ns mainGlobals mg)(z:y8 K T fs cs gs=true):Ar K mg T (DZ K fs cs gs):=by
 unfold y8 at z;simp only[lw]at z;obtain⟨⟨z1,z2,z3,z4,z5,z6,z7⟩,z8,z9,z10,z11,z12,z13,z14,z15,z16,z17⟩:=z;exact {
  gfn:=jV λp hp=>by
   have:=aA z1 p hp;simp only[lw]at this;exact⟨mg_of X G (fj this.1),this.2.1,ji this.2.2⟩
  gcl:=jV λp hp=>mg_of X G (fj (aA z2 p hp))
  gbl:=g8 λx hx=>by
   have:=aA z3 x hx;simp only[lw]at this;exact⟨mg_none_of X G (lX this.1),by simpa using this.2⟩
  gbi:=g8 λx hx=>by
   have:=aA z4 x hx
   split at this
   .rename_i B e;simp only[lw]at this;refine⟨B,mg_of X G e,b9 this.1,this.2.1,?_⟩;have t:=this.2.2
    split at t
    .rename_i n e2;rw[e2,beq_iff_eq.mp t]
    .cases t
   .cases this
  gl:=jV λp hp=>by
   obtain⟨u,e,r⟩:=D7 (aA z5 p hp);exact⟨u,mg_of X G e,r⟩
  na:=yR λp hp=>lX (aA z6 p hp)
  me:=fV λp hp=>by
   have:=aA z7 p hp;simp only[lw]at this;exact⟨rY this.1,⟨fj this.2.1,this.2.2.1,this.2.2.2.1⟩,ji this.2.2.2.2⟩
  ini0:=g8 λc hc=>by
   have:=aA z8 c hc;simp only[lw]at this;exact⟨this.1,b9 this.2.1,this.2.2.1,jR this.2.2.2⟩
  inip:=g8 λc hc=>by
   have:=aA z9 c hc;simp only[lw]at this;exact⟨this.1,b9 this.2.1,this.2.2⟩
  ini:=jV λp hp=>by
   have:=aA z10 p hp;simp only[lw]at this;refine⟨ji this.1,?_⟩;have t:=this.2
   by_cases e:T.xc.contains p.1=true
   .rw[if_pos e]at t⊢;exact⟨t.1,fj t.2.1,t.2.2.1,t.2.2.2⟩
   .rw[if_neg e]at t⊢;exact⟨t.1,fj t.2.1,t.2.2.1,t.2.2.2⟩
  oc:=g8 λc hc=>by
   have:=aA z11 c hc;simp only[zw,lw]at this;exact⟨rY this.1,b9 this.2.1.1,b9 this.2.1.2.1,dP this.2.1.2.2,dP this.2.2⟩
  xc:=g8 λc hc=>by
   have:=aA z12 c hc;simp only[zw,lw]at this;exact⟨jR this.1,b9 this.2.1,b9 this.2.2.1,dP this.2.2.2⟩
  sub:=fV λp hp=>by
   have:=aA z13 p hp;simp only[lw]at this;refine⟨dP this.1,λe=>?_⟩;have t:=this.2;rw[e,Bool.not_true,Bool.false_or,lw]at t;exact⟨dP t.1,jR t.2⟩
  subT:=fV λp hp=>dP (aA z14 p hp)
  subB:=fV λp hp=>dP (aA z15 p hp)
  subO:=fV λp hp=>dP (aA z16 p hp)
  cin:=jV λp hp=>by
   have:=aA z17 p hp;simp only[lw]at this;refine⟨⟨b9 this.1,this.2.1,?_,this.2.2.2.1⟩,ji this.2.2.2.2⟩;have t:=this.2.2.1
   split at t
   .rename_i f e2;rw[beq_iff_eq.mp t]at e2;exact e2
   .cases t }
abbrev Hz:List Str->Bool
 | []=>true
 |a::r=>!r.contains a&&Hz r
def xF:∀ {l:List Str},Hz l=true->l.Nodup
 | [],_=>List.nodup_nil
 |a::r,h=>by
  unfold Hz at h;rw[lw]at h;exact nodup_cons.mpr ⟨by simpa using h.1,xF h.2⟩
abbrev IC (N P:List Str)(sc:Scope):Bool:=decide (sc.kind=.function)&&(!sc.isCoroutine&&(!sc.isGenerator&&(Hz N&&(N.take P.length ==P&&(all2 P (λx=>match sc.names.lookup x with|some .local=>true|some .cell=>true|_=>false)&&all2 sc.names (λy=>match y.2 with| .free=>false|_=>true))))))
def qL {N P:List Str}{sc:Scope}(h:IC N P sc=true):jk N P sc:=by
 unfold IC at h;simp only[lw,decide_eq_true_eq]at h;refine⟨h.1,by simpa using h.2.1,by simpa using h.2.2.1,xF h.2.2.2.1,beq_iff_eq.mp h.2.2.2.2.1,λx hx=>?_,λy hy e=>?_⟩
 .have:=aA h.2.2.2.2.2.1 x hx
  split at this
  .rename_i e;exact .inl e
  .rename_i e;exact .inr e
  .cases this
 .have:=aA h.2.2.2.2.2.2 y hy;rw[e]at this;cases this
abbrev IL:V->Value->Bool
 | .non,.none=>true
 | .bl b,.bool c=>b ==c
 | .int i,.int j _=>i ==j
 | .str s,.str s' _=>s ==s'
 |_,_=>false
def Dx {v:V}{u:Value}(h:IL v u=true):RelV v u:=by
 unfold IL at h
 split at h
 .rfl
 .rw[beq_iff_eq.mp h];rfl
 .rw[beq_iff_eq.mp h];exact⟨_,rfl⟩
 .rw[beq_iff_eq.mp h];exact⟨_,rfl⟩
 .cases h
abbrev wy:List V->List Value->Bool
 | [],[]=>true
 |v::vs,u::us=>IL v u&&wy vs us
 |_,_=>false
def lT:∀ {vs:List V}{us:List Value},wy vs us=true->Vals vs us
 | [],[],_=>.nil
 |v::vs,u::us,h=>by
  unfold wy at h;rw[lw]at h;exact .cons (Dx h.1) (lT h.2)
 | [],_::_,h=>by cases h
 |_::_,[],h=>by cases h
abbrev Jc (K:Frag)(fd:FuncData)(d:aq):Bool:=match fd.defaults with
 | .none=>d.dfl.isEmpty
 | .ref T=>!d.dfl.isEmpty&&(match K.lookup T with
  |some o=>(match o.data with| .seq items _=>wy d.dfl items.toList&&decide (items.toList.length<=d.ps.length)|_=>false)
  |none=>false)
 |_=>false
abbrev B3 (K:Frag)(T:Tab)(f:Addr)(d:aq):Bool:=match K.lookup f with
 |some ⟨_,_,.func fd,_⟩=>(match fd.body with
  | .stmts body=>decide (fd.globals=mainGlobals)&&(fd.closure.isEmpty&&(decide (fd.builtins=builtinsNs)&&(codeIn K fd.code fd.qualname&&(IC d.N d.ps fd.scope&&(mB ⟨T,fd.scope,d.N⟩ d.body body&&
   (fd.params.posonlyargs.isEmpty&&(fd.params.args.map (·.arg) ==d.ps&&(fd.params.kwonlyargs.isEmpty&&(fd.params.vararg.isNone&&(fd.params.kwarg.isNone&&Jc K fd d))))))))))
  |_=>false)
 |_=>false
variable {d:aq}
def D4 {f:Addr}(h:B3 K T f d=true):ux K T f d:=by
 unfold B3 at h
 split at h
 .rename_i oc od fd sl e;obtain⟨name,qual,params,body,scope,glo,bS,dV,kV,doc,pm,an,cdv,ct,bu⟩:=fd;dsimp only at h
  split at h
  .rename_i body;simp only[lw,decide_eq_true_eq,isEmpty_iff,Option.isNone_iff_eq_none]at h;obtain⟨h1,h2,h3,h4,h5,h6,h7,h8,h9,h10,h11,h12⟩:=h;subst h1 h2 h3;have S:=qL h5;have nd:d.ps.Nodup:=by
    rw[<-S.pre];exact S.nd.sublist (take_sublist _ _)
   refine⟨⟨name,qual,params,body,scope,dV,kV,doc,pm,cdv,ct,oc,od,an,sl,e,h4,S,h6,?_⟩⟩;unfold Jc at h12;dsimp only at h12
   split at h12
   .rw[isEmpty_iff.mp h12];exact Em (.all λus hl=>pQ nd h7 (beq_iff_eq.mp h8) h9 h10 h11 rfl us hl)
   .rename_i T0;rw[lw]at h12;have h12:=h12.2
    split at h12
    .rename_i o ho
     split at h12
     .rename_i items c hs;rw[lw,decide_eq_true_eq]at h12;intro j;refine⟨items.toList.drop j,?_,lD j (lT h12.1)⟩;refine AA (n:=d.ps.length-(items.toList.drop j).length) rfl ho hs (by rw[io];omega) λus hl=>?_
      rw[io]at hl;obtain⟨k,k1,k2⟩:=vw (fd:=fnOf name qual params body scope (.ref T0) kV doc pm an cdv ct) (items:=items) nd h7 (beq_iff_eq.mp h8) h9 h10 h11 rfl us nofun h12.2 nofun;refine⟨k,k1,?_⟩;rw[k2]
      by_cases e:j<=items.toList.length
      .rw[show us.length+items.toList.length-d.ps.length=j by omega]
      .rw[show us.length+items.toList.length-d.ps.length=items.toList.length by omega,List.drop_length,List.drop_eq_nil_of_le (by omega:items.toList.length<=j)]
     .cases h12
    .cases h12
   .cases h12
  .cases h
 .cases h
abbrev kU (K:Frag)(T:Tab)(fs:List Addr):Nat->List aq->Bool
 |_,[]=>true
 |n,d::r=>B3 K T (fs.getD n 0) d&&kU K T fs (n+1) r
def su {K:Frag}{T:Tab}{fs:List Addr}:∀ {l:List aq}{n:Nat},kU K T fs n l=true->rG (λf d=>ux K T (fs.getD f 0) d) n l
 | [],_,_=>True.intro
 |d::r,n,h=>by
  unfold kU at h;rw[lw]at h;exact⟨D4 h.1,su h.2⟩
def zx (h:kU K T fs 0 T.fns=true):∀ f d,T.fns[f]? =some d->ux K T (fs.getD f 0) d:=qV (P:=λf d=>ux K T (fs.getD f 0) d) (su h)
def sv {K:Frag}{T:Tab}{fs:List Addr}:∀ {l:List aq}{n f:Nat}{d:aq},kU K T fs n l=true->l[f]? =some d->B3 K T (fs.getD (n+f) 0) d=true
 | [],_,_,_,_,e=>by simp at e
 |a::r,n,0,d,h,e=>by
  unfold kU at h;rw[lw]at h;have:a=d:=by simpa using e
  subst this;exact h.1
 |a::r,n,f+1,d,h,e=>by
  unfold kU at h;rw[lw]at h;have:=sv h.2 (f:=f) (d:=d) (by simpa using e)
  rwa [Nat.add_assoc,Nat.add_comm 1 f]at this
def A6 {fl:Nat}(z:kU K T fs 0 T.fns=true)(hd:T.fns[fl]? =some d)(hp:d.ps=[("_law_script":Str)]) (hf:d.dfl=[]):
  ∃ oc od fd sl,K.lookup (fs.getD fl 0)=some ⟨oc,od,.func fd,sl⟩/\∀ (s:Shared) (v:Value),BindsTo s fd ⟨[v],[]⟩ [("_law_script",v)]:=by
 have h:=sv z hd;rw[Nat.zero_add]at h;unfold B3 at h
 split at h
 .rename_i oc od fd sl e;refine⟨oc,od,fd,sl,e,λs v=>?_⟩
  split at h
  .rename_i body hb;simp only[lw,decide_eq_true_eq,isEmpty_iff,Option.isNone_iff_eq_none]at h;obtain⟨h1,h2,h3,h4,h5,h6,h7,h8,h9,h10,h11,h12⟩:=h;have nd:d.ps.Nodup:=by
    rw[<-(qL h5).pre];exact(qL h5).nd.sublist (take_sublist _ _)
   unfold Jc at h12;rw[hf]at h12;have e6:fd.defaults=.none:=by
    split at h12
    .rename_i e;exact e
    .rw[lw]at h12;cases h12.1
    .cases h12
   have:=pQ nd h7 (beq_iff_eq.mp h8) h9 h10 h11 e6 [v] (by rw[hp];rfl);rw[hp]at this;exact .of_eq this
  .cases h
 .cases h
def AL {P:Program}{w:World}{h:Heap}{fa:Addr}{cs:List Addr}{fl k:Nat}(X:K.In h)(G:h.Ns mainGlobals mg)(hfa:mg "law"=some (.ref fa))
  (z1:y8 K T fs cs gs=true) (z2:kU K T fs 0 T.fns=true) (z3:BM (nsIn K mainGlobals "law") (fs.getD fl 0)=true) (hd:T.fns[fl]? =some d) (hp:d.ps=[("_law_script":Str)]) (hf:d.dfl=[])
  (ht:∀ vs H Q E,il K 63 vs H Q E->aa T (DZ K fs cs gs) k fl vs H Q E):
  ∃ fd:FuncData,(∀ (s:Shared) (v:Value),BindsTo s fd ⟨[v],[]⟩ [("_law_script",v)])/\∀ base:Heap,K.In base->base.Ns mainGlobals mg->cM P w K mg base (xM P w) (2*k) fa fd ["_law_script"] (il K 63):=by
 have e0:fs.getD fl 0=fa:=by
  have e:=hfa.symm.trans (mg_of X G (fj z3))
  injection e with e
  injection e with e
  exact e.symm
 have fn:=zx z2;have tk:=yN X G z1;have N:=fn fl d hd;have hN:=A6 z2 hd;obtain⟨oc,od,fd,sl,e,hb⟩:=hN hp hf;refine⟨fd,hb,λbase hb hg=>?_⟩;have F:=Dm (P:=P) (w:=w) (base:=base) (R:=DZ K fs cs gs) tk rfl fn k fl d hd (fd:=fd) (lk:=e) (nP▸ht);rw[hp]at F;rw[<-e0];exact F
abbrev Jt (K:Frag)(a:Addr)(vs:List V):Bool:=match K.lookup a with
 |some ⟨.type t,_,.seq items _,_⟩=>t =="tuple"&&(decide (items.size<=1000)&&wy vs items.toList)
 |_=>false
def vE {a:Addr}{vs:List V}(h:Jt K a vs=true)(H:Hp):aZ K H a vs:=by
 unfold Jt at h
 split at h
 .rename_i t od items n sl e;simp only[lw,decide_eq_true_eq]at h;refine .inr ⟨_,items,n,e,?_,rfl,?_,lT h.2.2⟩
  .show Value.type t=_;rw[beq_iff_eq.mp h.1]
  .exact Nat.le_of_lt (eg h.2.1)
 .cases h
end L3
namespace L3
open PySem L2
noncomputable abbrev ft.c (e:Ex)(r:ft):ft:=.cons e r
noncomputable abbrev ft.n:ft:=.nil
noncomputable abbrev kP.c (e:Sx)(r:kP):kP:=.cons e r
noncomputable abbrev kP.n:kP:=.nil
noncomputable abbrev yF.c (a b:Nat)(e:kP)(r:yF):yF:=.cons a b e r
noncomputable abbrev yF.n:yF:=.nil
noncomputable abbrev Ex.i (x:Int):Ex:=.int x
noncomputable abbrev Ex.s (x:Str):Ex:=.str x
noncomputable abbrev Ex.k (x:Nat)(e:ft):Ex:=.call x e
noncomputable abbrev Ex.m (a:Ex)(x:Str)(e:ft):Ex:=.meth a x e
noncomputable abbrev Ex.f (c:Tx)(a b:Ex):Ex:=.ife c a b
noncomputable abbrev Ex.q (o:CmpOp)(a b:Ex):Ex:=.cmp o a b
noncomputable abbrev Tx.q (o:CmpOp)(a b:Ex):Tx:=.cmp o a b
noncomputable abbrev Sx.a (x:Nat)(e:Ex):Sx:=.asg x e
noncomputable abbrev Sx.r (e:Ex):Sx:=.ret e
noncomputable abbrev Sx.f (c:Tx)(a b:kP):Sx:=.ife c a b
noncomputable abbrev Sx.e (e:Ex):Sx:=.expr e
end L3
set_option Elab.async false
set_option maxHeartbeats 8000000
open PySem PySem.Spec L2 L3
namespace My
open PySem L2 L3
set_option hygiene false
local macro_rules|`(#[])=>`(.n)|`(#[$x:term])=>`(.c $x .n)|`(#[$x:term,$xs:term,*])=>`(.c $x #[$xs,*])
set_option hygiene true
abbrev cf:aq:=⟨["self","at"],["self","at"],[],#[.e (.bini #[.v 0,.s "no list of 1 to 60 contents"]),.fld (.v 0) "at" (.v 1)]⟩
abbrev cb:aq:=⟨["self","low","behind","word"],["self","low","behind","word"],[],#[.e (.bini #[.v 0,.s "no stretch of the store, or no word for a leave"]),.fld (.v 0) "low" (.v 1),.fld (.v 0) "behind" (.v 2),.fld (.v 0) "word" (.v 3)]⟩
abbrev dm:aq:=⟨["self","deed","cell"],["self","deed","cell"],[],#[.e (.bini #[.v 0,.s "a cell that is not there, or may not be looked at or put"]),.fld (.v 0) "deed" (.v 1),.fld (.v 0) "cell" (.v 2)]⟩
abbrev cV:aq:=⟨["self","box","number"],["self","box","number"],[],#[.e (.bini #[.v 0,.s "a box can't hold this"]),.fld (.v 0) "box" (.v 1),.fld (.v 0) "number" (.v 2)]⟩
abbrev gN:aq:=⟨["self","box"],["self","box"],[],#[.e (.bini #[.v 0,.s "no box of that name"]),.fld (.v 0) "box" (.v 1)]⟩
abbrev fE:aq:=⟨["self","word"],["self","word"],[],#[.e (.bini #[.v 0,.s "a deed can't be made of this"]),.fld (.v 0) "word" (.v 1)]⟩
abbrev fS:aq:=⟨["self","at"],["self","at"],[],#[.e (.bini #[.v 0,.s "no list of 1 to 24 deeds"]),.fld (.v 0) "at" (.v 1)]⟩
abbrev fw:aq:=⟨["self","at"],["self","at"],[],#[.e (.bini #[.v 0,.s "no place to stand at"]),.fld (.v 0) "at" (.v 1)]⟩
abbrev j8:aq:=⟨["thing"],["thing"],[],#[.r (.and (.isi (.v 0) (.ty "int")) (.not (.isi (.v 0) (.ty "bool"))))]⟩
abbrev gE:aq:=⟨["thing"],["thing"],[],#[.r (.and (.k 8 #[.v 0]) (.cmp2 .LtE .LtE (.i 0) (.v 0) (.gl "BOUND")))]⟩
abbrev jH:aq:=⟨["thing"],["thing"],[],#[.r (.and (.isi (.v 0) (.ty "str")) (.q .In (.v 0) (.gl "NAMES")))]⟩
abbrev ig:aq:=⟨["thing"],["thing"],[],#[.r (.and (.k 8 #[.v 0]) (.cmp2 .LtE .LtE (.neg (.gl "BOUND")) (.v 0) (.gl "BOUND")))]⟩
abbrev wq:aq:=⟨["box","thing"],["box","thing"],[],#[.f (.or (.q .Eq (.v 0) (.s "here")) (.q .Eq (.v 0) (.s "there"))) #[.r (.k 11 #[.v 1])] .n,.f (.q .Eq (.v 0) (.s "way")) #[.r (.and (.k 8 #[.v 1]) (.or (.q .Eq (.v 1) (.i 1)) (.q .Eq (.v 1) (.neg (.i 1)))))] .n,.f (.q .Eq (.v 0) (.s "met")) #[.r (.and (.k 8 #[.v 1]) (.or (.q .Eq (.v 1) (.i 0)) (.q .Eq (.v 1) (.i 1))))] .n,.r (.k 9 #[.v 1])]⟩
abbrev cR:aq:=⟨["self","here","there","left","way","sign","met"],["self","here","there","left","way","sign","met","handed","box","number"],[.int 0,.int 0,.int 0,.int 1,.int 0,.int 0],#[.a 7 (.tup #[.v 1,.v 2,.v 3,.v 4,.v 5,.v 6]),.for (.tp [8,9]) (.zip (.gl "NAMES") (.v 7)) #[.f (.not (.val (.k 12 #[.v 8,.v 9]))) #[.rais (.make 4 #[.v 8,.v 9])] .n],.fld (.v 0) "numbers" (.dzip (.gl "NAMES") (.v 7))]⟩
abbrev e9:aq:=⟨["self","box"],["self","box"],[],#[.f (.not (.val (.k 10 #[.v 1]))) #[.rais (.make 5 #[.v 1])] .n,.r (.ix (.fld (.v 0) "numbers") (.v 1))]⟩
abbrev cZ:aq:=⟨["self","box","number"],["self","box","number"],[],#[.f (.not (.val (.k 10 #[.v 1]))) #[.rais (.make 5 #[.v 1])] .n,.f (.not (.val (.k 12 #[.v 1,.v 2]))) #[.rais (.make 4 #[.v 1,.v 2])] .n,.sub (.fld (.v 0) "numbers") (.v 1) (.v 2)]⟩
abbrev fK:aq:=⟨["self"],["self"],[],#[.r (.bf .tuple #[.lc (.ix (.fld (.v 1) "numbers") (.v 0)) [0] (.seq (.gl "NAMES"))])]⟩
abbrev d8:aq:=⟨["self"],["self","other"],[],#[.a 1 (.make 9 .n),.fld (.v 1) "numbers" (.bf .dict #[.fld (.v 0) "numbers"]),.r (.v 1)]⟩
abbrev iO:aq:=⟨["word","box"],["word","box"],[],#[.f (.not (.val (.k 10 #[.v 1]))) #[.rais (.make 6 #[.v 0])] .n]⟩
abbrev d7:aq:=⟨["word","number"],["word","number"],[],#[.f (.not (.val (.k 11 #[.v 1]))) #[.rais (.make 6 #[.v 0])] .n]⟩
abbrev dF:aq:=⟨["self","box","number"],["self","box","number"],[],#[.e (.k 18 #[.s "set",.v 1]),.e (.k 19 #[.s "set",.v 2]),.fld (.v 0) "box" (.v 1),.fld (.v 0) "number" (.v 2)]⟩
abbrev jI:aq:=⟨["self","boxes","store"],["self","boxes","store"],[],#[.e (.m (.v 1) "give" #[.fld (.v 0) "box",.fld (.v 0) "number"]),.r (.i 1)]⟩
abbrev nX:aq:=⟨["self"],["self"],[],#[.r (.lst #[.s "set",.fld (.v 0) "box",.bf .str #[.fld (.v 0) "number"]])]⟩
abbrev dD:aq:=⟨["self","box","number"],["self","box","number"],[],#[.e (.k 18 #[.s "add",.v 1]),.e (.k 19 #[.s "add",.v 2]),.fld (.v 0) "box" (.v 1),.fld (.v 0) "number" (.v 2)]⟩
abbrev ki:aq:=⟨["self","boxes","store"],["self","boxes","store"],[],#[.e (.m (.v 1) "give" #[.fld (.v 0) "box",.bin .Add (.m (.v 1) "holds" #[.fld (.v 0) "box"]) (.fld (.v 0) "number")]),.r (.i 1)]⟩
abbrev oH:aq:=⟨["self"],["self"],[],#[.r (.lst #[.s "add",.fld (.v 0) "box",.bf .str #[.fld (.v 0) "number"]])]⟩
abbrev dg:aq:=⟨["self","box","other"],["self","box","other"],[],#[.e (.k 18 #[.s "take",.v 1]),.e (.k 18 #[.s "take",.v 2]),.fld (.v 0) "box" (.v 1),.fld (.v 0) "other" (.v 2)]⟩
abbrev ip:aq:=⟨["self","boxes","store"],["self","boxes","store"],[],#[.e (.m (.v 1) "give" #[.fld (.v 0) "box",.m (.v 1) "holds" #[.fld (.v 0) "other"]]),.r (.i 1)]⟩
abbrev my:aq:=⟨["self"],["self"],[],#[.r (.lst #[.s "take",.fld (.v 0) "box",.fld (.v 0) "other"])]⟩
abbrev c9:aq:=⟨["self","box"],["self","box"],[],#[.e (.k 18 #[.s "read",.v 1]),.fld (.v 0) "box" (.v 1)]⟩
abbrev iU:aq:=⟨["self","boxes","store"],["self","boxes","store"],[],#[.e (.m (.v 1) "give" #[.fld (.v 0) "box",.m (.v 2) "look" #[.m (.v 1) "holds" #[.s "here"]]]),.r (.i 1)]⟩
abbrev lW:aq:=⟨["self"],["self"],[],#[.r (.lst #[.s "read",.fld (.v 0) "box"])]⟩
abbrev cW:aq:=⟨["self","box"],["self","box"],[],#[.e (.k 18 #[.s "write",.v 1]),.fld (.v 0) "box" (.v 1)]⟩
abbrev gh:aq:=⟨["self","boxes","store"],["self","boxes","store","number"],[],#[.a 3 (.m (.v 1) "holds" #[.fld (.v 0) "box"]),.f (.not (.val (.k 9 #[.v 3]))) #[.rais (.make 4 #[.fld (.v 0) "box",.v 3])] .n,.e (.m (.v 2) "put" #[.m (.v 1) "holds" #[.s "there"],.v 3]),.r (.i 1)]⟩
abbrev kB:aq:=⟨["self"],["self"],[],#[.r (.lst #[.s "write",.fld (.v 0) "box"])]⟩
abbrev gz:aq:=⟨["rows"],["rows","at","thing"],[],#[.f (.or (.not (.val (.isi (.v 0) (.ty "list")))) (.not (.cmp2 .LtE .LtE (.i 1) (.bf .len #[.v 0]) (.gl "MOST_ROWS")))) #[.rais (.make 7 #[.neg (.i 1)])] .n,.for (.tp [1,2]) (.enm (.v 0)) #[.f (.not (.val (.isi (.v 2) (.own 10)))) #[.rais (.make 7 #[.v 1])] .n]]⟩
abbrev eU:aq:=⟨["at","many"],["at","many"],[],#[.f (.or (.not (.val (.k 8 #[.v 0]))) (.not (.cmp2 .LtE .LtE (.i 0) (.v 0) (.v 1)))) #[.rais (.make 8 #[.v 0])] .n]⟩
abbrev sA:aq:=⟨["deed","boxes","store"],["deed","boxes","store","stop","refusal"],[],#[.tryx #[.r (.tup #[.m (.v 0) "step" #[.v 1,.v 2],.non])] (.c 3 3 #[.r (.tup #[.non,.tup #[.fld (.v 3) "deed",.fld (.v 3) "cell"]])] (.c 4 4 #[.r (.tup #[.non,.tup #[.s "fit",.fld (.v 4) "box"]])] .n))]⟩
abbrev cp:aq:=⟨["self","rows","store","boxes","at"],["self","rows","store","boxes","at"],[.int 0],#[.e (.k 35 #[.v 1]),.e (.k 36 #[.v 4,.bf .len #[.v 1]]),.fld (.v 0) "deeds" (.bf .list #[.v 1]),.fld (.v 0) "store" (.m (.v 2) "copied" .n),.fld (.v 0) "boxes" (.m (.v 3) "copied" .n),.fld (.v 0) "at" (.v 4)]⟩
abbrev dq:aq:=⟨["self"],["self"],[],#[.r (.q .Eq (.fld (.v 0) "at") (.bf .len #[.fld (.v 0) "deeds"]))]⟩
abbrev cD:aq:=⟨["self","store"],["self","store","by"],[],#[.f (.val (.m (.v 0) "ended" .n)) #[.r (.s "end")] .n,.a 2 (.ix (.k 37 #[.ix (.fld (.v 0) "deeds") (.fld (.v 0) "at"),.fld (.v 0) "boxes",.v 1]) (.i 0)),.f (.q .Is (.v 2) .non) #[.r (.s "stop")] .n,.fld (.v 0) "at" (.bf .min #[.bin .Add (.fld (.v 0) "at") (.v 2),.bf .len #[.fld (.v 0) "deeds"]]),.r (.s "on")]⟩
abbrev dz:aq:=⟨["self"],["self"],[],#[.r (.m (.v 0) "step_on" #[.fld (.v 0) "store"])]⟩
abbrev cI:aq:=⟨["self","most"],["self","most","steps"],[],#[.a 2 (.i 0),.whl (.and (.q .Lt (.v 2) (.v 1)) (.q .Eq (.m (.v 0) "step" .n) (.s "on"))) #[.aug 2 .Add (.i 1)],.f (.val (.m (.v 0) "ended" .n)) #[.r (.tup #[.s "end",.v 2])] .n,.f (.q .GtE (.v 2) (.v 1)) #[.r (.tup #[.s "bell",.v 2])] .n,.r (.tup #[.s "stop",.v 2])]⟩
abbrev dh:aq:=⟨["self"],["self"],[],#[.r (.tup #[.fld (.v 0) "at",.m (.fld (.v 0) "boxes") "told" .n,.m (.fld (.v 0) "store") "told" .n])]⟩
abbrev cU:aq:=⟨["self"],["self"],[],#[.r (.m (.fld (.v 0) "store") "leaves" .n)]⟩
abbrev i5:aq:=⟨["self","low","behind","word"],["self","low","behind","word"],[],#[.e (.m (.fld (.v 0) "store") "leave" #[.v 1,.v 2,.v 3])]⟩
abbrev jE:aq:=⟨["self"],["self"],[],#[.r (.lc (.m (.v 0) "words" .n) [] (.seq (.fld (.v 0) "deeds")))]⟩
abbrev cO:aq:=⟨["self"],["self"],[],#[.r (.make 16 #[.fld (.v 0) "deeds",.fld (.v 0) "store",.fld (.v 0) "boxes",.fld (.v 0) "at"])]⟩
abbrev lb:aq:=⟨["thing"],["thing"],[],#[.r (.and (.k 8 #[.v 0]) (.cmp2 .LtE .LtE (.i 0) (.v 0) (.gl "MOST_HOPPED")))]⟩
abbrev r9:aq:=⟨["thing"],["thing"],[],#[.r (.or (.q .Is (.v 0) .non) (.and (.k 8 #[.v 0]) (.or (.q .Eq (.v 0) (.i 0)) (.q .Eq (.v 0) (.i 1)))))]⟩
abbrev dN:aq:=⟨["self","many","on"],["self","many","on"],[.non],#[.f (.or (.not (.val (.k 48 #[.v 1]))) (.not (.val (.k 49 #[.v 2])))) #[.rais (.make 6 #[.s "hop"])] .n,.fld (.v 0) "many" (.v 1),.fld (.v 0) "on" (.v 2)]⟩
abbrev jT:aq:=⟨["self","boxes","store"],["self","boxes","store"],[],#[.f (.or (.q .Is (.fld (.v 0) "on") .non) (.q .Eq (.fld (.v 0) "on") (.m (.v 1) "holds" #[.s "met"]))) #[.r (.bin .Add (.i 1) (.fld (.v 0) "many"))] .n,.r (.i 1)]⟩
abbrev nH:aq:=⟨["self"],["self","told"],[],#[.a 1 (.lst #[.s "hop",.bf .str #[.fld (.v 0) "many"]]),.f (.q .IsNot (.fld (.v 0) "on") .non) #[.e (.lm .extend (.v 1) #[.lst #[.s "if",.bf .str #[.fld (.v 0) "on"]]])] .n,.r (.v 1)]⟩
abbrev lV:aq:=⟨["boxes","box","by"],["boxes","box","by"],[],#[.e (.m (.v 0) "give" #[.v 1,.bin .Add (.m (.v 0) "holds" #[.v 1]) (.v 2)])]⟩
abbrev d5:aq:=⟨["boxes","box"],["boxes","box"],[],#[.e (.k 53 #[.v 0,.v 1,.m (.v 0) "holds" #[.s "way"]])]⟩
abbrev iQ:aq:=⟨["boxes","by"],["boxes","by"],[],#[.e (.k 53 #[.v 0,.s "left",.neg (.v 1)]),.r (.f (.q .Eq (.m (.v 0) "holds" #[.s "left"]) (.i 0)) (.i 1) (.i 0))]⟩
abbrev lp:aq:=⟨["store","cell"],["store","cell"],[],#[.f (.not (.val (.m (.v 0) "may" #[.s "put",.v 1]))) #[.rais (.make 3 #[.s "put",.v 1])] .n]⟩
abbrev v9:aq:=⟨["store","source","target"],["store","source","target","content"],[],#[.a 3 (.m (.v 0) "look" #[.v 1]),.e (.m (.v 0) "put" #[.v 2,.v 3])]⟩
abbrev jy:aq:=⟨["store","one","other"],["store","one","other","first","second"],[],#[.a 3 (.m (.v 0) "look" #[.v 1]),.a 4 (.m (.v 0) "look" #[.v 2]),.e (.k 56 #[.v 0,.v 1]),.e (.k 56 #[.v 0,.v 2]),.e (.m (.v 0) "put" #[.v 1,.v 4]),.e (.m (.v 0) "put" #[.v 2,.v 3])]⟩
abbrev iA:aq:=⟨["self","boxes","store"],["self","boxes","store"],[],#[.f (.q .Eq (.m (.v 1) "holds" #[.s "left"]) (.i 0)) #[.r (.i 1)] .n,.e (.k 57 #[.v 2,.m (.v 1) "holds" #[.s "here"],.m (.v 1) "holds" #[.s "there"]]),.e (.k 54 #[.v 1,.s "here"]),.e (.k 54 #[.v 1,.s "there"]),.r (.k 55 #[.v 1,.i 1])]⟩
abbrev ma:aq:=⟨["self"],["self"],[],#[.r (.lst #[.s "copy"])]⟩
abbrev iN:aq:=⟨["self","boxes","store"],["self","boxes","store"],[],#[.f (.q .Eq (.m (.v 1) "holds" #[.s "left"]) (.i 0)) #[.r (.i 1)] .n,.e (.m (.v 2) "put" #[.m (.v 1) "holds" #[.s "there"],.m (.v 1) "holds" #[.s "sign"]]),.e (.k 54 #[.v 1,.s "there"]),.r (.k 55 #[.v 1,.i 1])]⟩
abbrev lZ:aq:=⟨["self"],["self"],[],#[.r (.lst #[.s "fill"])]⟩
abbrev hW:aq:=⟨["self","boxes","store"],["self","boxes","store"],[],#[.f (.q .Eq (.m (.v 1) "holds" #[.s "left"]) (.i 0)) #[.e (.m (.v 1) "give" #[.s "met",.i 0]),.r (.i 1)] .n,.f (.q .Eq (.m (.v 2) "look" #[.m (.v 1) "holds" #[.s "here"]]) (.m (.v 1) "holds" #[.s "sign"])) #[.e (.m (.v 1) "give" #[.s "met",.i 1]),.r (.i 1)] .n,.e (.m (.v 1) "give" #[.s "met",.i 0]),.e (.k 54 #[.v 1,.s "here"]),.r (.k 55 #[.v 1,.i 1])]⟩
abbrev mR:aq:=⟨["self"],["self"],[],#[.r (.lst #[.s "seek"])]⟩
abbrev fQ:aq:=⟨["self","boxes","store"],["self","boxes","store","content"],[],#[.f (.q .Eq (.m (.v 1) "holds" #[.s "left"]) (.i 0)) #[.e (.m (.v 1) "give" #[.s "met",.i 1]),.r (.i 1)] .n,.a 3 (.m (.v 2) "look" #[.m (.v 1) "holds" #[.s "here"]]),.f (.q .NotEq (.v 3) (.m (.v 2) "look" #[.m (.v 1) "holds" #[.s "there"]])) #[.e (.m (.v 1) "give" #[.s "met",.i 0]),.r (.i 1)] .n,.e (.m (.v 1) "give" #[.s "met",.i 1]),.e (.k 54 #[.v 1,.s "here"]),.e (.k 54 #[.v 1,.s "there"]),.r (.k 55 #[.v 1,.i 1])]⟩
abbrev kR:aq:=⟨["self"],["self"],[],#[.r (.lst #[.s "match"])]⟩
abbrev gj:aq:=⟨["self","boxes","store"],["self","boxes","store","left","here","there"],[],#[.a 3 (.m (.v 1) "holds" #[.s "left"]),.f (.q .Eq (.v 3) (.i 0)) #[.r (.i 1)] .n,.a 4 (.m (.v 1) "holds" #[.s "here"]),.a 5 (.m (.v 1) "holds" #[.s "there"]),.f (.q .LtE (.v 5) (.v 4)) #[.e (.k 57 #[.v 2,.v 4,.v 5]),.e (.k 53 #[.v 1,.s "here",.i 1]),.e (.k 53 #[.v 1,.s "there",.i 1])] #[.e (.k 57 #[.v 2,.bin .Sub (.bin .Add (.v 4) (.v 3)) (.i 1),.bin .Sub (.bin .Add (.v 5) (.v 3)) (.i 1)])],.r (.k 55 #[.v 1,.i 1])]⟩
abbrev kW:aq:=⟨["self"],["self"],[],#[.r (.lst #[.s "shift"])]⟩
abbrev ir:aq:=⟨["self","boxes","store"],["self","boxes","store","left","here"],[],#[.a 3 (.m (.v 1) "holds" #[.s "left"]),.f (.q .Eq (.v 3) (.i 0)) #[.r (.i 1)] .n,.f (.q .Eq (.v 3) (.i 1)) #[.r (.k 55 #[.v 1,.i 1])] .n,.a 4 (.m (.v 1) "holds" #[.s "here"]),.e (.k 58 #[.v 2,.v 4,.bin .Sub (.bin .Add (.v 4) (.v 3)) (.i 1)]),.e (.k 53 #[.v 1,.s "here",.i 1]),.r (.k 55 #[.v 1,.i 2])]⟩
abbrev mL:aq:=⟨["self"],["self"],[],#[.r (.lst #[.s "turn"])]⟩
abbrev eJ:aq:=⟨["cells"],["cells","at","thing"],[],#[.f (.or (.not (.val (.isi (.v 0) (.ty "list")))) (.not (.cmp2 .LtE .LtE (.i 1) (.bf .len #[.v 0]) (.gl "MOST_CELLS")))) #[.rais (.make 1 #[.neg (.i 1)])] .n,.for (.tp [1,2]) (.enm (.v 0)) #[.f (.not (.val (.k 9 #[.v 2]))) #[.rais (.make 1 #[.v 1])] .n]]⟩
abbrev jS:aq:=⟨["word"],["word"],[],#[.r (.and (.isi (.v 0) (.ty "str")) (.q .In (.v 0) (.gl "LEAVES")))]⟩
abbrev hG:aq:=⟨["low","behind","size"],["low","behind","size"],[],#[.r (.and (.k 8 #[.v 0]) (.and (.k 8 #[.v 1]) (.cmp3 .LtE .LtE .LtE (.i 0) (.v 0) (.v 1) (.v 2))))]⟩
abbrev cS:aq:=⟨["self","cells"],["self","cells"],[],#[.e (.k 71 #[.v 1]),.fld (.v 0) "contents" (.bf .list #[.v 1]),.fld (.v 0) "permits" (.bin .Mult (.lst #[.s "open"]) (.bf .len #[.v 1]))]⟩
abbrev fL:aq:=⟨["self"],["self"],[],#[.r (.bf .len #[.fld (.v 0) "contents"])]⟩
abbrev gy:aq:=⟨["self"],["self"],[],#[.r (.bf .list #[.fld (.v 0) "contents"])]⟩
abbrev dH:aq:=⟨["self"],["self"],[],#[.r (.bf .list #[.fld (.v 0) "permits"])]⟩
abbrev fc:aq:=⟨["self","low","behind","word"],["self","low","behind","word","cell"],[],#[.f (.or (.not (.val (.k 73 #[.v 1,.v 2,.m (.v 0) "size" .n]))) (.not (.val (.k 72 #[.v 3])))) #[.rais (.make 2 #[.v 1,.v 2,.v 3])] .n,.for (.nm 4) (.rng2 (.v 1) (.v 2)) #[.sub (.fld (.v 0) "permits") (.v 4) (.v 3)]]⟩
abbrev ie:aq:=⟨["self","deed","cell"],["self","deed","cell"],[],#[.f (.not (.cmp2 .LtE .Lt (.i 0) (.v 2) (.m (.v 0) "size" .n))) #[.r (.bl false)] .n,.f (.q .Eq (.ix (.fld (.v 0) "permits") (.v 2)) (.s "look")) #[.r (.q .Eq (.v 1) (.s "look"))] .n,.r (.q .Eq (.ix (.fld (.v 0) "permits") (.v 2)) (.s "open"))]⟩
abbrev fW:aq:=⟨["self","cell"],["self","cell"],[],#[.f (.not (.val (.m (.v 0) "may" #[.s "look",.v 1]))) #[.rais (.make 3 #[.s "look",.v 1])] .n,.r (.ix (.fld (.v 0) "contents") (.v 1))]⟩
abbrev ic:aq:=⟨["self","cell","content"],["self","cell","content"],[],#[.f (.not (.val (.m (.v 0) "may" #[.s "put",.v 1]))) #[.rais (.make 3 #[.s "put",.v 1])] .n,.sub (.fld (.v 0) "contents") (.v 1) (.v 2)]⟩
abbrev dv:aq:=⟨["self"],["self","other"],[],#[.a 1 (.make 24 #[.lst #[.i 0]]),.fld (.v 1) "contents" (.bf .list #[.fld (.v 0) "contents"]),.fld (.v 1) "permits" (.bf .list #[.fld (.v 0) "permits"]),.r (.v 1)]⟩
abbrev iB:aq:=⟨["_law_script"],["_law_script","_law_cells","_law_fold","_law_cell"],[],#[.a 1 (.bf .list #[.sl (.v 0) .no (.yes (.i 63))]),.a 2 (.bf .len #[.v 1]),.for (.nm 3) (.seq (.v 1)) #[.a 2 (.bin .Mod (.bin .Add (.bin .Add (.bin .Mult (.v 2) (.i 48271)) (.bin .Mod (.v 3) (.i 2147483647))) (.i 1)) (.i 2147483629))],.r (.lst #[.v 1,.v 2,.i 0,.i 0,.i 0])]⟩
abbrev hV:aq:=⟨["_law_hand_here","_law_many"],["_law_hand_here","_law_many","_law_rest","_law_cell","_law_one","_law_two"],[],#[.augS (.v 0) (.i 4) .Add (.i 1),.a 2 (.ix (.v 0) (.i 3)),.a 3 (.ix (.v 0) (.i 1)),.f (.q .Gt (.v 2) (.i 0)) #[.sub (.v 0) (.i 3) (.bin .FloorDiv (.v 2) (.v 1)),.r (.bin .Mod (.v 2) (.v 1))] .n,.f (.q .Lt (.ix (.v 0) (.i 2)) (.bf .len #[.ix (.v 0) (.i 0)])) #[.a 3 (.ix (.ix (.v 0) (.i 0)) (.ix (.v 0) (.i 2))),.augS (.v 0) (.i 2) .Add (.i 1),.f (.q .GtE (.v 3) (.bin .Pow (.i 10) (.i 18))) #[.sub (.v 0) (.i 3) (.bin .FloorDiv (.v 3) (.v 1)),.r (.bin .Mod (.v 3) (.v 1))] .n] .n,.a 4 (.bin .Mod (.bin .Pow (.bin .Add (.bin .Mod (.v 3) (.i 998244353)) (.bin .Mult (.i 7919) (.ix (.v 0) (.i 4)))) (.i 5)) (.i 2147483647)),.a 5 (.bin .Mod (.bin .Pow (.bin .Add (.bin .Add (.v 4) (.bin .Mult (.i 104729) (.ix (.v 0) (.i 4)))) (.ix (.v 0) (.i 1))) (.i 3)) (.i 2147483629)),.r (.bin .Mod (.bin .FloorDiv (.v 5) (.i 7)) (.v 1))]⟩
abbrev dJ:aq:=⟨["_law_hand_here"],["_law_hand_here","_law_way"],[],#[.a 1 (.k 84 #[.v 0,.i 4]),.f (.q .Eq (.v 1) (.i 0)) #[.r (.k 84 #[.v 0,.i 3])] .n,.f (.q .Eq (.v 1) (.i 1)) #[.r (.bin .Sub (.bin .Pow (.i 10) (.i 9)) (.k 84 #[.v 0,.i 2]))] .n,.f (.q .Eq (.v 1) (.i 2)) #[.r (.k 84 #[.v 0,.i 100])] .n,.r (.bin .Mod (.bin .Add (.bin .Mult (.k 84 #[.v 0,.i 100000]) (.i 10001)) (.k 84 #[.v 0,.i 10001])) (.bin .Add (.bin .Pow (.i 10) (.i 9)) (.i 1)))]⟩
abbrev eW:aq:=⟨["_law_hand_here","_law_many"],["_law_hand_here","_law_many","_law_leaves_here","_law_k","_law_word","_law_low","_law_cell"],[],#[.a 2 (.bin .Mult (.lst #[.s "open"]) (.v 1)),.for (.nm 3) (.rng1 (.ix (.lst #[.i 0,.i 0,.i 1,.i 2,.i 4]) (.k 84 #[.v 0,.i 5]))) #[.a 4 (.ix (.lst #[.s "look",.s "shut",.s "look",.s "open"]) (.k 84 #[.v 0,.i 4])),.a 5 (.k 84 #[.v 0,.v 1]),.for (.nm 6) (.rng2 (.v 5) (.bin .Add (.v 5) (.k 84 #[.v 0,.bin .Add (.bin .Sub (.v 1) (.v 5)) (.i 1)]))) #[.sub (.v 2) (.v 6) (.v 4)]],.r (.v 2)]⟩
abbrev gi:aq:=⟨["_law_thing"],["_law_thing"],[],#[.r (.and (.isi (.v 0) (.ty "int")) (.not (.isi (.v 0) (.ty "bool"))))]⟩
abbrev iI:aq:=⟨["_law_spec"],["_law_spec","_law_word"],[],#[.a 1 (.ix (.v 0) (.i 0)),.f (.q .Eq (.v 1) (.s "set")) #[.r (.make 11 #[.ix (.v 0) (.i 1),.ix (.v 0) (.i 2)])] .n,.f (.q .Eq (.v 1) (.s "add")) #[.r (.make 12 #[.ix (.v 0) (.i 1),.ix (.v 0) (.i 2)])] .n,.f (.q .Eq (.v 1) (.s "take")) #[.r (.make 13 #[.ix (.v 0) (.i 1),.ix (.v 0) (.i 2)])] .n,.f (.q .Eq (.v 1) (.s "read")) #[.r (.make 14 #[.ix (.v 0) (.i 1)])] .n,.f (.q .Eq (.v 1) (.s "write")) #[.r (.make 15 #[.ix (.v 0) (.i 1)])] .n,.f (.q .Eq (.v 1) (.s "hop")) #[.r (.make 17 #[.ix (.v 0) (.i 1),.ix (.v 0) (.i 2)])] .n,.r (.k 89 #[.v 1])]⟩
abbrev iM:aq:=⟨["_law_word"],["_law_word"],[],#[.f (.q .Eq (.v 0) (.s "copy")) #[.r (.mk0 18)] .n,.f (.q .Eq (.v 0) (.s "fill")) #[.r (.mk0 19)] .n,.f (.q .Eq (.v 0) (.s "seek")) #[.r (.mk0 20)] .n,.f (.q .Eq (.v 0) (.s "match")) #[.r (.mk0 21)] .n,.f (.q .Eq (.v 0) (.s "shift")) #[.r (.mk0 22)] .n,.r (.mk0 23)]⟩
abbrev kh:aq:=⟨["_law_leaves_here","_law_deed_here","_law_cell"],["_law_leaves_here","_law_deed_here","_law_cell"],[],#[.f (.or (.q .Lt (.v 2) (.i 0)) (.q .GtE (.v 2) (.bf .len #[.v 0]))) #[.r (.bl false)] .n,.r (.or (.q .Eq (.ix (.v 0) (.v 2)) (.s "open")) (.and (.q .Eq (.ix (.v 0) (.v 2)) (.s "look")) (.q .Eq (.v 1) (.s "look"))))]⟩
abbrev gm:aq:=⟨["_law_spec","_law_boxes"],["_law_spec","_law_boxes","_law_here","_law_there","_law_left","_law_word","_law_far"],[],#[.par [2,3,4] #[.ix (.v 1) (.s "here"),.ix (.v 1) (.s "there"),.ix (.v 1) (.s "left")],.a 5 (.ix (.v 0) (.i 0)),.f (.q .Eq (.v 5) (.s "read")) #[.r (.tup #[.lst #[.v 2],.lst .n])] .n,.f (.q .Eq (.v 5) (.s "write")) #[.r (.tup #[.lst .n,.lst #[.v 3]])] .n,.f (.or (.q .Eq (.v 4) (.i 0)) (.and (.q .Eq (.v 5) (.s "turn")) (.q .Eq (.v 4) (.i 1)))) #[.r (.tup #[.lst .n,.lst .n])] .n,.f (.q .Eq (.v 5) (.s "copy")) #[.r (.tup #[.lst #[.v 2],.lst #[.v 3]])] .n,.f (.q .Eq (.v 5) (.s "fill")) #[.r (.tup #[.lst .n,.lst #[.v 3]])] .n,.f (.q .Eq (.v 5) (.s "seek")) #[.r (.tup #[.lst #[.v 2],.lst .n])] .n,.f (.q .Eq (.v 5) (.s "match")) #[.r (.tup #[.lst #[.v 2,.v 3],.lst .n])] .n,.f (.q .Eq (.v 5) (.s "shift")) #[.a 6 (.ix (.lst #[.bin .Sub (.v 4) (.i 1),.i 0]) (.bf .int #[.q .LtE (.v 3) (.v 2)])),.r (.tup #[.lst #[.bin .Add (.v 2) (.v 6)],.lst #[.bin .Add (.v 3) (.v 6)]])] .n,.f (.q .Eq (.v 5) (.s "turn")) #[.r (.tup #[.lst #[.v 2,.bin .Sub (.bin .Add (.v 2) (.v 4)) (.i 1)],.lst #[.v 2,.bin .Sub (.bin .Add (.v 2) (.v 4)) (.i 1)]])] .n,.r (.tup #[.lst .n,.lst .n])]⟩
abbrev ik:aq:=⟨["_law_box","_law_number"],["_law_box","_law_number"],[],#[.f (.or (.q .Eq (.v 0) (.s "here")) (.q .Eq (.v 0) (.s "there"))) #[.r (.cmp2 .LtE .LtE (.neg (.bin .Pow (.i 10) (.i 9))) (.v 1) (.bin .Pow (.i 10) (.i 9)))] .n,.f (.or (.q .Eq (.v 0) (.s "left")) (.q .Eq (.v 0) (.s "sign"))) #[.r (.cmp2 .LtE .LtE (.i 0) (.v 1) (.bin .Pow (.i 10) (.i 9)))] .n,.f (.q .Eq (.v 0) (.s "way")) #[.r (.or (.q .Eq (.v 1) (.i 1)) (.q .Eq (.v 1) (.neg (.i 1))))] .n,.r (.or (.q .Eq (.v 1) (.i 0)) (.q .Eq (.v 1) (.i 1)))]⟩
abbrev bM:aq:=⟨["_law_spec","_law_boxes","_law_leaves_here"],["_law_spec","_law_boxes","_law_leaves_here","_law_looks","_law_puts","_law_cell"],[],#[.f (.and (.q .Eq (.ix (.v 0) (.i 0)) (.s "write")) (.not (.cmp2 .LtE .LtE (.i 0) (.ix (.v 1) (.ix (.v 0) (.i 1))) (.bin .Pow (.i 10) (.i 9))))) #[.r (.tup #[.s "fit",.ix (.v 0) (.i 1),.ix (.v 1) (.ix (.v 0) (.i 1))])] .n,.asgT [3,4] (.k 91 #[.v 0,.v 1]),.for (.nm 5) (.seq (.v 3)) #[.f (.not (.val (.k 90 #[.v 2,.s "look",.v 5]))) #[.r (.tup #[.s "look",.v 5,.i 0])] .n],.for (.nm 5) (.seq (.v 4)) #[.f (.not (.val (.k 90 #[.v 2,.s "put",.v 5]))) #[.r (.tup #[.s "put",.v 5,.i 0])] .n],.r .non]⟩
abbrev hR:aq:=⟨["_law_spec","_law_boxes","_law_cells","_law_leaves_here"],["_law_spec","_law_boxes","_law_cells","_law_leaves_here","_law_barred_here","_law_word","_law_number"],[],#[.a 4 (.k 93 #[.v 0,.v 1,.v 3]),.f (.q .IsNot (.v 4) .non) #[.r (.v 4)] .n,.a 5 (.ix (.v 0) (.i 0)),.f (.q .In (.v 5) (.tup #[.s "set",.s "add",.s "take",.s "read"])) #[.a 6 (.ix (.v 0) (.neg (.i 1))),.f (.q .Eq (.v 5) (.s "add")) #[.a 6 (.bin .Add (.ix (.v 1) (.ix (.v 0) (.i 1))) (.v 6))] .n,.f (.q .Eq (.v 5) (.s "take")) #[.a 6 (.ix (.v 1) (.ix (.v 0) (.i 2)))] .n,.f (.q .Eq (.v 5) (.s "read")) #[.a 6 (.ix (.v 2) (.ix (.v 1) (.s "here")))] .n,.f (.not (.val (.k 92 #[.ix (.v 0) (.i 1),.v 6]))) #[.r (.tup #[.s "fit",.ix (.v 0) (.i 1),.v 6])] .n,.sub (.v 1) (.ix (.v 0) (.i 1)) (.v 6),.r (.tup #[.s "on",.i 1,.i 0])] .n,.f (.q .Eq (.v 5) (.s "write")) #[.sub (.v 2) (.ix (.v 1) (.s "there")) (.ix (.v 1) (.ix (.v 0) (.i 1))),.r (.tup #[.s "on",.i 1,.i 0])] .n,.f (.q .Eq (.v 5) (.s "hop")) #[.r (.tup #[.s "on",.bin .Add (.i 1) (.bin .Mult (.ix (.v 0) (.i 1)) (.bf .int #[.or (.q .Is (.ix (.v 0) (.i 2)) .non) (.q .Eq (.ix (.v 0) (.i 2)) (.ix (.v 1) (.s "met")))])),.i 0])] .n,.r (.tup #[.s "on",.k 95 #[.v 5,.v 1,.v 2],.i 0])]⟩
abbrev gB:aq:=⟨["_law_word","_law_boxes","_law_cells"],["_law_word","_law_boxes","_law_cells","_law_here","_law_there","_law_left","_law_way","_law_size","_law_content_here"],[],#[.par [3,4,5] #[.ix (.v 1) (.s "here"),.ix (.v 1) (.s "there"),.ix (.v 1) (.s "left")],.a 6 (.ix (.v 1) (.s "way")),.f (.q .In (.v 0) (.tup #[.s "seek",.s "match"])) #[.r (.k 96 #[.v 0,.v 1,.v 2])] .n,.f (.q .Eq (.v 5) (.i 0)) #[.r (.i 1)] .n,.a 7 (.i 1),.f (.q .Eq (.v 0) (.s "copy")) #[.sub (.v 2) (.v 4) (.ix (.v 2) (.v 3)),.sub (.v 1) (.s "here") (.bin .Add (.v 3) (.v 6)),.sub (.v 1) (.s "there") (.bin .Add (.v 4) (.v 6))] .n,.f (.q .Eq (.v 0) (.s "fill")) #[.sub (.v 2) (.v 4) (.ix (.v 1) (.s "sign")),.sub (.v 1) (.s "there") (.bin .Add (.v 4) (.v 6))] .n,.f (.and (.q .Eq (.v 0) (.s "shift")) (.q .LtE (.v 4) (.v 3))) #[.sub (.v 2) (.v 4) (.ix (.v 2) (.v 3)),.sub (.v 1) (.s "here") (.bin .Add (.v 3) (.i 1)),.sub (.v 1) (.s "there") (.bin .Add (.v 4) (.i 1))] #[.f (.q .Eq (.v 0) (.s "shift")) #[.sub (.v 2) (.bin .Sub (.bin .Add (.v 4) (.v 5)) (.i 1)) (.ix (.v 2) (.bin .Sub (.bin .Add (.v 3) (.v 5)) (.i 1)))] .n],.f (.and (.q .Eq (.v 0) (.s "turn")) (.q .Gt (.v 5) (.i 1))) #[.a 7 (.i 2),.a 8 (.ix (.v 2) (.v 3)),.sub (.v 2) (.v 3) (.ix (.v 2) (.bin .Sub (.bin .Add (.v 3) (.v 5)) (.i 1))),.sub (.v 2) (.bin .Sub (.bin .Add (.v 3) (.v 5)) (.i 1)) (.v 8),.sub (.v 1) (.s "here") (.bin .Add (.v 3) (.i 1))] .n,.sub (.v 1) (.s "left") (.bin .Sub (.v 5) (.v 7)),.r (.bf .int #[.q .Eq (.ix (.v 1) (.s "left")) (.i 0)])]⟩
abbrev eL:aq:=⟨["_law_word","_law_boxes","_law_cells"],["_law_word","_law_boxes","_law_cells","_law_here","_law_there","_law_left","_law_way","_law_other"],[],#[.par [3,4,5] #[.ix (.v 1) (.s "here"),.ix (.v 1) (.s "there"),.ix (.v 1) (.s "left")],.a 6 (.ix (.v 1) (.s "way")),.f (.q .Eq (.v 5) (.i 0)) #[.sub (.v 1) (.s "met") (.bf .int #[.q .Eq (.v 0) (.s "match")]),.r (.i 1)] .n,.a 7 (.ix (.v 1) (.s "sign")),.f (.q .Eq (.v 0) (.s "match")) #[.a 7 (.ix (.v 2) (.v 4))] .n,.f (.q .Eq (.q .Eq (.ix (.v 2) (.v 3)) (.v 7)) (.q .Eq (.v 0) (.s "seek"))) #[.sub (.v 1) (.s "met") (.bf .int #[.q .Eq (.v 0) (.s "seek")]),.r (.i 1)] .n,.sub (.v 1) (.s "met") (.bf .int #[.q .Eq (.v 0) (.s "match")]),.sub (.v 1) (.s "here") (.bin .Add (.v 3) (.v 6)),.f (.q .Eq (.v 0) (.s "match")) #[.sub (.v 1) (.s "there") (.bin .Add (.v 4) (.v 6))] .n,.sub (.v 1) (.s "left") (.bin .Sub (.v 5) (.i 1)),.r (.bf .int #[.q .Eq (.v 5) (.i 1)])]⟩
abbrev iK:aq:=⟨["_law_specs","_law_cells","_law_leaves_here","_law_six","_law_at"],["_law_specs","_law_cells","_law_leaves_here","_law_six","_law_at","_law_store","_law_k","_law_boxes"],[],#[.a 5 (.make 24 #[.bf .list #[.v 1]]),.for (.nm 6) (.rng1 (.bf .len #[.v 1])) #[.f (.q .NotEq (.ix (.v 2) (.v 6)) (.s "open")) #[.e (.m (.v 5) "leave" #[.v 6,.bin .Add (.v 6) (.i 1),.ix (.v 2) (.v 6)])] .n],.a 7 (.make 9 #[.ix (.v 3) (.s "here"),.ix (.v 3) (.s "there"),.ix (.v 3) (.s "left"),.ix (.v 3) (.s "way"),.ix (.v 3) (.s "sign"),.ix (.v 3) (.s "met")]),.r (.make 16 #[.lc (.k 88 #[.v 0]) [] (.seq (.v 0)),.v 5,.v 7,.v 4])]⟩
abbrev iP:aq:=⟨["_law_specs","_law_world"],["_law_specs","_law_world","_law_told"],[],#[.f (.q .Eq (.ix (.v 1) (.i 0)) (.bf .len #[.v 0])) #[.r (.s "end")] .n,.a 2 (.k 94 #[.ix (.v 0) (.ix (.v 1) (.i 0)),.ix (.v 1) (.i 1),.ix (.v 1) (.i 2),.ix (.v 1) (.i 3)]),.f (.q .NotEq (.ix (.v 2) (.i 0)) (.s "on")) #[.r (.s "stop")] .n,.sub (.v 1) (.i 0) (.bf .min #[.bf .len #[.v 0],.bin .Add (.ix (.v 1) (.i 0)) (.ix (.v 2) (.i 1))]),.r (.s "on")]⟩
abbrev eX:aq:=⟨["_law_machine","_law_world"],["_law_machine","_law_world","_law_found"],[],#[.a 2 (.m (.v 0) "state" .n),.f (.or (.not (.val (.isi (.v 2) (.ty "tuple")))) (.or (.q .NotEq (.bf .len #[.v 2]) (.i 3)) (.not (.val (.k 87 #[.ix (.v 2) (.i 0)]))))) #[.r (.bl false)] .n,.f (.or (.not (.val (.isi (.ix (.v 2) (.i 1)) (.ty "tuple")))) (.not (.val (.isi (.ix (.v 2) (.i 2)) (.ty "list"))))) #[.r (.bl false)] .n,.f (.not (.val (.bf .all #[.lc (.k 87 #[.v 0]) [] (.seq (.bin .Add (.bf .list #[.ix (.v 2) (.i 1)]) (.ix (.v 2) (.i 2))))]))) #[.r (.bl false)] .n,.r (.and (.q .Eq (.v 2) (.tup #[.ix (.v 1) (.i 0),.vals true (.ix (.v 1) (.i 1)),.ix (.v 1) (.i 2)])) (.q .Eq (.m (.v 0) "leaves" .n) (.ix (.v 1) (.i 3))))]⟩
abbrev eO:aq:=⟨["_law_world"],["_law_world"],[],#[.r (.lst #[.ix (.v 0) (.i 0),.bf .dict #[.ix (.v 0) (.i 1)],.bf .list #[.ix (.v 0) (.i 2)],.bf .list #[.ix (.v 0) (.i 3)]])]⟩
abbrev iw:aq:=⟨["_law_hand_here"],["_law_hand_here","_law_specs","_law_k","_law_left","_law_box"],[],#[.a 1 (.lst .n),.for (.nm 2) (.rng1 (.i 8)) #[.a 3 (.ix (.lst #[.i 60,.i 60,.k 84 #[.v 0,.i 61],.bin .Sub (.bin .Pow (.i 10) (.i 9)) (.k 84 #[.v 0,.i 2]),.i 59]) (.k 84 #[.v 0,.i 5])),.a 4 (.ix (.lst #[.s "here",.s "there"]) (.k 84 #[.v 0,.i 2])),.e (.lm .append (.v 1) #[.tup #[.s "set",.v 4,.ix (.lst #[.i 0,.i 59,.k 84 #[.v 0,.i 60],.i 30]) (.k 84 #[.v 0,.i 4])]]),.e (.lm .append (.v 1) #[.tup #[.s "set",.s "left",.v 3]]),.e (.lm .append (.v 1) #[.tup #[.ix (.lst #[.s "copy",.s "fill",.s "seek",.s "match",.s "shift",.s "turn",.s "shift",.s "copy"]) (.k 84 #[.v 0,.i 8])]])],.r (.v 1)]⟩
abbrev iD:aq:=⟨["_law_specs","_law_world","_law_most"],["_law_specs","_law_world","_law_most","_law_done_here"],[],#[.a 3 (.i 0),.whl (.and (.q .Lt (.v 3) (.v 2)) (.q .Eq (.k 98 #[.v 0,.v 1]) (.s "on"))) #[.a 3 (.bin .Add (.v 3) (.i 1))],.r (.v 3)]⟩
abbrev jz:aq:=⟨["_law_script"],["_law_script","_law_hand_here","_law_specs","_law_cells","_law_leaves_here","_law_six","_law_world","_law_own","_law_machine","_law_other","_law_total","_law_due","_law_size","_law_third","_law_turn","_law_done_here","_law_word"],[],#[.a 1 (.k 83 #[.v 0]),.a 2 (.k 101 #[.v 1]),.a 3 (.lc (.ix (.lst #[.k 84 #[.v 1,.i 3],.k 85 #[.v 1]]) (.k 84 #[.v 1,.i 2])) [1] (.rng1 (.i 60))),.a 4 (.bin .Mult (.lst #[.s "open"]) (.i 60)),.f (.q .Eq (.k 84 #[.v 1,.i 3]) (.i 0)) #[.a 4 (.k 86 #[.v 1,.i 60])] .n,.a 5 (.disp ["here","there","left","way","sign","met"] #[.k 84 #[.v 1,.i 60],.k 84 #[.v 1,.i 60],.i 0,.i 1,.i 0,.i 0]),.sub (.v 5) (.s "way") (.bin .Sub (.i 1) (.bin .Mult (.i 2) (.k 84 #[.v 1,.i 2]))),.sub (.v 5) (.s "sign") (.k 85 #[.v 1]),.a 6 (.lst #[.i 0,.v 5,.v 3,.v 4]),.a 7 (.k 100 #[.v 6]),.a 8 (.k 97 #[.v 2,.v 3,.v 4,.v 5,.i 0]),.a 9 (.m (.v 8) "copied" .n),.a 10 (.k 102 #[.v 2,.v 6,.bin .Pow (.i 10) (.i 6)]),.a 11 (.tup #[.ix (.lst #[.s "stop",.s "end"]) (.bf .int #[.q .Eq (.ix (.v 6) (.i 0)) (.i 24)]),.v 10]),.f (.or (.q .NotEq (.m (.v 8) "run" #[.bin .Pow (.i 10) (.i 6)]) (.v 11)) (.not (.val (.k 99 #[.v 8,.v 6])))) #[.r (.bl false)] .n,.a 12 (.bin .Add (.i 1) (.k 84 #[.v 1,.i 30])),.a 13 (.v 9),.for (.nm 14) (.rng1 (.bin .Add (.i 1) (.bin .FloorDiv (.v 10) (.v 12)))) #[.a 15 (.k 102 #[.v 2,.v 7,.v 12]),.a 16 (.s "bell"),.f (.q .Eq (.ix (.v 7) (.i 0)) (.i 24)) #[.a 16 (.s "end")] #[.f (.q .Lt (.v 15) (.v 12)) #[.a 16 (.s "stop")] .n],.f (.or (.q .NotEq (.m (.v 9) "run" #[.v 12]) (.tup #[.v 16,.v 15])) (.and (.q .Eq (.bin .Mod (.v 14) (.i 16)) (.i 0)) (.not (.val (.k 99 #[.v 9,.v 7]))))) #[.r (.bl false)] .n,.f (.q .Eq (.v 14) (.bin .FloorDiv (.bin .FloorDiv (.v 10) (.v 12)) (.i 2))) #[.a 13 (.m (.v 9) "copied" .n)] .n],.e (.m (.v 13) "run" #[.bin .Pow (.i 10) (.i 6)]),.r (.and (.k 99 #[.v 9,.v 6]) (.and (.k 99 #[.v 13,.v 6]) (.q .Eq (.v 7) (.v 6))))]⟩
abbrev tab:Tab where
  fns:=(cf::cb::dm::cV::gN::fE::fS::fw::j8::gE::jH::ig::wq::cR::e9::cZ::fK::d8::iO::d7::dF::jI::nX::dD::ki::oH::dg::ip::my::c9::iU::lW::cW::gh::kB::gz::eU::sA::cp::dq::cD::dz::cI::dh::cU::i5::jE::cO::lb::r9::dN::jT::nH::lV::d5::iQ::lp::v9::jy::iA::ma::iN::lZ::hW::mR::fQ::kR::gj::kW::ir::mL::eJ::jS::hG::cS::fL::gy::dH::fc::ie::fW::ic::dv::iB::hV::dJ::eW::gi::iI::iM::kh::gm::ik::bM::hR::gB::eL::iK::iP::eX::eO::iw::iD::jz::[])
  gfn:=(("is_whole",8)::("is_content",9)::("is_box",10)::("is_number",11)::("fits",12)::("check_box",18)::("check_number",19)::("check_rows",35)::("check_place",36)::("tried",37)::("is_many",48)::("is_on",49)::("more",53)::("go_by_way",54)::("less_left",55)::("ask_put",56)::("haul",57)::("exchange",58)::("check_cells",71)::("is_leave",72)::("is_within",73)::("_law_hand",83)::("_law_draw",84)::("_law_content",85)::("_law_leaves",86)::("_law_whole",87)::("_law_deed",88)::("_law_long",89)::("_law_let",90)::("_law_reach",91)::("_law_fits",92)::("_law_barred",93)::("_law_step",94)::("_law_moved",95)::("_law_looked",96)::("_law_made",97)::("_law_goes",98)::("_law_stands",99)::("_law_copied",100)::("_law_rows",101)::("_law_done",102)::("law",103)::[])
  gcl:=[("HaulError",0),("NoStore",1),("NoLeave",2),("Stop",3),("NoFit",4),("NoBox",5),("NoDeed",6),("NoRows",7),("NoPlace",8),("Boxes",9),("Deed",10),("Set",11),("Add",12),("Take",13),("Read",14),("Write",15),("Machine",16),("Hop",17),("Copy",18),("Fill",19),("Seek",20),("Match",21),("Shift",22),("Turn",23),("Store",24)]
  gbl:=["all","bool","dict","enumerate","int","isinstance","len","list","min","range","str","tuple","zip"]
  gbi:=["HaulError"]
  na:=[(1,"at"),(2,"behind"),(2,"low"),(2,"word"),(3,"cell"),(3,"deed"),(4,"box"),(4,"number"),(5,"box"),(6,"word"),(7,"at"),(8,"at"),(9,"numbers"),(11,"box"),(11,"number"),(12,"box"),(12,"number"),(13,"box"),(13,"other"),(14,"box"),(15,"box"),(16,"at"),(16,"boxes"),(16,"deeds"),(16,"store"),(17,"many"),(17,"on"),(24,"contents"),(24,"permits")]
  me:=(((9,"copied"),17)::((9,"give"),15)::((9,"holds"),14)::((9,"told"),16)::((11,"step"),21)::((11,"words"),22)::((12,"step"),24)::((12,"words"),25)::((13,"step"),27)::((13,"words"),28)::((14,"step"),30)::((14,"words"),31)::((15,"step"),33)::((15,"words"),34)::((16,"copied"),47)::((16,"ended"),39)::((16,"leave"),45)::((16,"leaves"),44)::((16,"rows"),46)::((16,"run"),42)::((16,"state"),43)::((16,"step"),41)::((16,"step_on"),40)::((17,"step"),51)::((17,"words"),52)::((18,"step"),59)::((18,"words"),60)::((19,"step"),61)::((19,"words"),62)::((20,"step"),63)::((20,"words"),64)::((21,"step"),65)::((21,"words"),66)::((22,"step"),67)::((22,"words"),68)::((23,"step"),69)::((23,"words"),70)::((24,"copied"),82)::((24,"leave"),78)::((24,"leaves"),77)::((24,"look"),80)::((24,"may"),79)::((24,"put"),81)::((24,"size"),75)::((24,"told"),76)::[])
  ini:=[(1,0),(2,1),(3,2),(4,3),(5,4),(6,5),(7,6),(8,7),(9,13),(11,20),(12,23),(13,26),(14,29),(15,32),(16,38),(17,50),(24,74)]
  ini0:=[]
  inip:=[18,19,20,21,22,23]
  oc:=[9,10,11,12,13,14,15,16,17,18,19,20,21,22,23,24]
  xc:=[0,1,2,3,4,5,6,7,8]
  sub:=(((0,4),false)::((0,3),false)::((1,4),false)::((1,3),false)::((2,4),false)::((2,3),false)::((3,4),false)::((3,3),true)::((4,4),true)::((4,3),false)::((5,4),false)::((5,3),false)::((6,4),false)::((6,3),false)::((7,4),false)::((7,3),false)::((8,4),false)::((8,3),false)::((9,10),false)::((10,10),true)::((11,10),true)::((12,10),true)::((13,10),true)::((14,10),true)::((15,10),true)::((16,10),false)::((17,10),true)::((18,10),true)::((19,10),true)::((20,10),true)::((21,10),true)::((22,10),true)::((23,10),true)::((24,10),false)::[])
  subT:=[]
  subB:=((("NoneType","bool"),false)::(("NoneType","int"),false)::(("NoneType","list"),false)::(("NoneType","str"),false)::(("NoneType","tuple"),false)::(("bool","bool"),true)::(("bool","int"),true)::(("bool","list"),false)::(("bool","str"),false)::(("bool","tuple"),false)::(("int","bool"),false)::(("int","int"),true)::(("int","list"),false)::(("int","str"),false)::(("int","tuple"),false)::(("str","bool"),false)::(("str","int"),false)::(("str","list"),false)::(("str","str"),true)::(("str","tuple"),false)::(("list","bool"),false)::(("list","int"),false)::(("list","list"),true)::(("list","str"),false)::(("list","tuple"),false)::(("tuple","bool"),false)::(("tuple","int"),false)::(("tuple","list"),false)::(("tuple","str"),false)::(("tuple","tuple"),true)::(("dict","bool"),false)::(("dict","int"),false)::(("dict","list"),false)::(("dict","str"),false)::(("dict","tuple"),false)::[])
  subO:=[]
/-- what the proofs ask of the addresses -/
structure Ro (K:W.Frag) (R:Rt):Prop where
  hK:R.K=K
  g_BOUND:R.gl "BOUND"=some (.int 1000000000)
  g_MOST_ROWS:R.gl "MOST_ROWS"=some (.int 24)
  g_MOST_HOPPED:R.gl "MOST_HOPPED"=some (.int 24)
  g_MOST_CELLS:R.gl "MOST_CELLS"=some (.int 60)
  g_NAMES:∃ a,R.gl "NAMES"=some (.ref a)/\∀ H,aZ K H a [.str "here",.str "there",.str "left",.str "way",.str "sign",.str "met"]
  g_LEAVES:∃ a,R.gl "LEAVES"=some (.ref a)/\∀ H,aZ K H a [.str "open",.str "look",.str "shut"]
end My
set_option Elab.async false
set_option maxHeartbeats 8000000
namespace My
open PySem L2 L3
open L2.V renaming ref→u8,int→ul,str→ut,non→v4
open L2.HO renaming lst→v6,tup→wf,ins→wn
local macro_rules|`(tactic|delta $x:ident)=>`(tactic|refine wc (d:=$x) nofun rfl rfl ?_)
variable {h a d dx lv:Addr}{m i r c l at_:Int}{ns cs':List Int}{n:Nat}{v:V}{t:String}{xs ds ss:List V}{α:Type}{ws:List Str}{G:Gx}{A:az}{P:V->Prop}{sp:Sp}{o:Option Int}{D:Ends}{L:List az}
section
variable {K:W.Frag}{R:Rt}{k:Nat}{H:Hp}{Q:VK}{E:XK}{O Γ' Δ:List az}
local macro_rules| `(tactic|walk_at "w")=>`(tactic|conv=>whnf)
local macro_rules| `(tactic|left)=>`(tactic|walk_at "w")
local macro_rules| `(tactic|symm)=>`(tactic|((with_reducible (repeat(first|exact ag.e|apply ag.t)));done))
local macro_rules| `(tactic|ac_rfl)=>`(tactic|((with_reducible (repeat(first|exact aJ.e|apply aJ.t)));done))
local macro_rules| `(tactic|ac_nf)=>`(tactic|first|(with_reducible exact Sub.refl)|(refine' Sub.cons ?h ?r;(case h=>symm);(case r=>ac_nf))|(with_reducible exact Sub.nil)|(with_reducible apply Sub.drop;(ac_nf)))
local macro_rules| `(tactic|walk_at "sp")=>`(tactic|(refine Sep.sub ?_ (by with_reducible assumption);(ac_nf)))
local macro_rules| `(tactic|grind)=>`(tactic|first|exact Sep.get (by with_reducible assumption) (by symm)|exact Sep.DW (by with_reducible assumption) (by symm))
local macro_rules| `(tactic|walk_at "ar")=>`(tactic|first|lia|omega|decide|exact nw rfl|(unfold pT;omega)|(unfold Am;omega)|(unfold Am;decide)|(unfold pT;decide)|(simp only[ce,length_set,length_replicate];omega))
local macro_rules| `(tactic|walk_at "ls")=>`(tactic|first|(conv=>lhs;simp only[List.set_cons_succ,List.set_cons_zero,Int.reduceToNat])|rfl)
local macro_rules| `(tactic|walk_at "pf")=>`(tactic|first|(conv=>lhs;simp (decide:=true) only [cA,if_true,if_false])|rfl)
local macro_rules| `(tactic|walk_at "st")=>`(tactic|first
  |(with_reducible refine And.intro rfl ?_)
  |(with_reducible refine aG rfl ?_)
  |(with_reducible refine ak rfl ?_)
  |(with_reducible refine Eg ?_)
  |((with_reducible refine' ba ?e ?v ?_);(case e=>grind);(case v=>exact rfl))
  |((with_reducible refine' Ik ?e ?v ?_);(case e=>grind);(case v=>exact rfl))
  |((with_reducible refine' Fj ?e ?i ?v ?_);(case e=>grind);(case i=>omega);(case v=>exact rfl))
  |(with_reducible refine CC rfl ?_)
  |(with_reducible refine bf_max rfl ?_)
  |((with_reducible refine' jd ?e ?_);(case e=>grind))
  |((with_reducible refine' Aj ?e ?_);(case e=>grind))
  |((with_reducible refine' dZ ?s ?r ?j ?x (λH hs=>?_));(case s=>with_reducible assumption);(case r=>ac_rfl);(case j=>exact rfl);(case x=>walk_at "ls"))
  |((with_reducible refine' qM ?s ?l (λp H hs=>?_));(case s=>with_reducible assumption);(case l=>exact nw rfl))
  |((with_reducible refine' g9 ?s ?l (λp H hs=>?_));(case s=>with_reducible assumption);(case l=>exact nw rfl))
  |((with_reducible refine' al_dct ?s (λp H hs=>?_));(case s=>with_reducible assumption))
  |((with_reducible refine' Jh ?e ?_);(case e=>grind))
  |((with_reducible refine' G1 ?e ?_);(case e=>grind))
  |((with_reducible refine' Bv ?s ?e ?f ?l (λp H hs=>?_));(case s=>with_reducible assumption);(case e=>grind);(case f=>grind);(case l=>walk_at "ar"))
  |((with_reducible refine' Fg ?s ?e ?f ?g ?l (λp H hs=>?_));(case s=>with_reducible assumption);(case e=>grind);(case f=>walk_at "ar");(case g=>walk_at "ar");(case l=>walk_at "ar"))
  |((with_reducible refine' Im ?s ?r ?o ?n ?l ?x (λH hs=>?_));(case s=>with_reducible assumption);(case r=>ac_rfl);(case o=>exact rfl);(case n=>exact rfl);(case l=>walk_at "ar");(case x=>walk_at "pf"))
  |((with_reducible refine' cu ?e ?o ?n ?l ?_);(case e=>grind);(case o=>exact rfl);(case n=>exact rfl);(case l=>exact rfl))
  |((with_reducible refine' G9 ?e ?o ?n ?l ?_);(case e=>grind);(case o=>exact rfl);(case n=>exact rfl);(case l=>exact rfl))
  |((with_reducible refine' isi_x ?e ?o ?b ?_);(case e=>grind);(case o=>exact rfl);(case b=>exact rfl))
  |((with_reducible refine' isi_xt ?e ?o ?b ?_);(case e=>grind);(case o=>exact rfl);(case b=>exact rfl))
  |((with_reducible refine' cT ?t ?b ?_);(case t=>exact rfl);(case b=>exact rfl))
  |((with_reducible refine' mZ ?a ?b ?_);(case a=>exact rfl);(case b=>exact rfl))
  |((with_reducible refine' zA ?a ?b ?_);(case a=>exact rfl);(case b=>exact rfl))
  |((with_reducible refine' tK ?s ?e (λp H hs=>?_));(case s=>with_reducible assumption);(case e=>grind))
  |((with_reducible refine' sl_l ?s ?e (λp H hs=>?_));(case s=>with_reducible assumption);(case e=>grind))
  |(refine And.intro (by walk_at "ar") ?_))
local macro_rules| `(tactic|walk_at "go")=>`(tactic|(walk_at "w";repeat(walk_at "st";walk_at "w")))
local macro_rules| `(tactic|right)=>`(tactic|walk_at "go")
abbrev hand (h:Addr)(m:Int):az:=ex λx:Addr×List Int×Int×Int×Int×Int=>nB (pt h (v6 [u8 x.1,ul x.2.2.1,ul x.2.2.2.1,ul x.2.2.2.2.1,ul x.2.2.2.2.2])) (nB (pt x.1 (v6 (x.2.1.map ul)))
 (pu (x.2.1.length<=63/\0<=x.2.2.1/\x.2.2.1<2147483629/\0<=x.2.2.2.1/\0<=x.2.2.2.2.1/\0<=x.2.2.2.2.2/\x.2.2.2.2.2<=m)))
def yb (s:Sep (hand h m::O) H):∃ (c:Addr) (ns:List Int) (fo i r n:Int),Sep (pt h (v6 [u8 c,ul fo,ul i,ul r,ul n])::pt c (v6 (ns.map ul))::O) H/\ns.length<=63/\0<=fo/\fo<2147483629/\0<=i/\0<=r/\0<=n/\n<=m:=by
 obtain⟨⟨c,ns,fo,i,r,n⟩,s⟩:=Sep.EX.mp s;have s2:=Sep.star.mp ((Sep.star.mp s).pull .k1);have p:=(s2.pull .k1).pure;exact⟨c,ns,fo,i,r,n,((s2.pull .k1).drop).pull .k1,p⟩
def gR {c:Addr}{fo n:Int}(s:Sep (pt h (v6 [u8 c,ul fo,ul i,ul r,ul n])::pt c (v6 (ns.map ul))::O) H)(p:ns.length<=63/\0<=fo/\fo<2147483629/\0<=i/\0<=r/\0<=n/\n<=m):Sep (hand h m::O) H:=by
 refine Sep.EX.mpr ⟨⟨c,ns,fo,i,r,n⟩,Sep.star.mpr ?_⟩;exact(Sep.star.mpr (((s.pull .k1).pull .e |> λs=>(Sep.AS p s).pull .k1))).pull .k1
def Fl:(10:Int) ^ Int.toNat 18=1000000000000000000:=by decide
def EN {n:Int}(hk:1<=k)(s:Sep (hand h m::O) H)(hm:m<=1099511627776)(hn0:0<n)(hn1:n<1073741824)
  (q:∀ (r:Int) (H':Hp),0<=r->r<n->Sep (hand h (m+1)::O) H'->Q (ul r) H'):aa tab R k 84 [u8 h,ul n] H Q E:=by
 obtain⟨c,ns,fo,i,r,j,hs,h63,f0,f1,i0,r0,k0,k1⟩:=yb s;clear s;have nn:n≠0:=by omega
 delta hV;right;refine aI (λhr=>?_) (λhr=>?_)
 .right;rename_i H1 hs1 H2 hs2;exact q _ _ (Int.emod_nonneg _ nn) (Int.emod_lt_of_pos _ hn0) (gR hs2 ⟨h63,f0,f1,i0,Int.ediv_nonneg r0 nofun,by omega,by omega⟩)
 right;refine aI (λhc=>?_) (λhc=>?_)
 .right;obtain⟨z,hz⟩:∃ z,kx (ns.map ul) i=some (ul z):=wD i0 (by rw[ce]at hc;exact hc);refine ba (by grind) hz ?_;right;refine aI (λhz18=>?_) (λhz18=>?_)
  .rw[Fl]at hz18;right;rename_i H1 hs1 H2 hs2 H3 hs3;exact q _ _ (Int.emod_nonneg _ nn) (Int.emod_lt_of_pos _ hn0) (gR hs3 ⟨h63,f0,f1,by omega,Int.ediv_nonneg nofun nofun,by omega,by omega⟩)
  .right;rename_i H1 hs1 H2 hs2;exact q _ _ (Int.emod_nonneg _ nn) (Int.emod_lt_of_pos _ hn0) (gR hs2 ⟨h63,f0,f1,by omega,r0,by omega,by omega⟩)
 .right;rename_i H1 hs1;exact q _ _ (Int.emod_nonneg _ nn) (Int.emod_lt_of_pos _ hn0) (gR hs1 ⟨h63,f0,f1,by omega,r0,by omega,by omega⟩)
def Cs (hk:1<=k)(s:Sep O H)(hS:aY R.K H a (ns.map ul))(h63:ns.length<=63)(q:∀ h H',Sep (hand h 0::O) H'->Q (u8 h) H'):aa tab R k 83 [u8 a] H Q E:=by
 delta iB;right;refine IF s hS (λp H1 hs1=>?_);rw[F6 ns h63]at hs1;right;rename_i c H2 hs2;refine l0 (xs:=ns.map ul) (λj U H=>∃ (fo:Int) (v:Option V),U=[some (u8 a),some (u8 c),some (ul fo),v]/\0<=fo/\fo<2147483629/\Sep (pt c (v6 (ns.map ul))::pt p (v6 (ns.map ul))::O) H) ?_ ?_ ?_ ?_
 .exact⟨_,none,rfl,by rw[ce];omega,by rw[ce];omega,hs2⟩
 .rintro j U H ⟨fo,v,rfl,h0,h2,hs⟩;exact aY.of hs.at
 .rintro j x U H hx ⟨fo,v,rfl,h0,h2,hs⟩;obtain⟨z,rfl⟩:=qP hx;right;exact⟨_,_,rfl,by omega,by omega,hs⟩
 .rintro U H ⟨fo,v,rfl,h0,h2,hs⟩;right;rename_i l H3 hs3;exact q l _ (gR ((hs3.pull .k2).drop) ⟨h63,h0,h2,by omega,by omega,by omega,by omega⟩)
def bD {n:Int}(s:Sep (hand h m::O) H)(e:m<=n):Sep (hand h n::O) H:=by
 obtain⟨c,ns,fo,i,r,j,hs,h63,f0,f1,i0,r0,k0,k1⟩:=yb s;exact gR hs ⟨h63,f0,f1,i0,r0,k0,by omega⟩
inductive Kd (H:Hp):V->String->Prop where
 |non:Kd H v4 "NoneType"
 |bl (b:Bool):Kd H (.bl b) "bool"
 |int (i:Int):Kd H (ul i) "int"
 |str (x:Str):Kd H (ut x) "str"
 |lst {a:Addr}{xs:List V}(e:H a=some (v6 xs)):Kd H (u8 a) "list"
 |tup {a:Addr}{xs:List V}(e:H a=some (wf xs)):Kd H (u8 a) "tuple"
 |dct {a:Addr}{kvs:List (Key×V)}(e:Rd H a (.dK kvs)):Kd H (u8 a) "dict"
def dc (h:tyName v H=some t):Kd H v t:=by
 unfold tyName at h
 split at h
 .cases h;exact .non
 .cases h;exact .bl _
 .cases h;exact .int _
 .cases h;exact .str _
 .split at h
  .rename_i e;cases h;exact .lst e
  .rename_i e;cases h;exact .tup e
  .rename_i e;cases h;exact .dct (.inl e)
  .rename_i e;cases h;exact .dct (.inr ⟨_,e⟩)
  .cases h
 .cases h
abbrev qr:V->Bool
 | ul _=>true
 |_=>false
abbrev el:V->Bool
 | ul i=>decide (0<=i)&&decide (i<=1000000000)
 |_=>false
def aM (hk:1<=k)(ht:tyName v H=some t)(q:Q (.bl (qr v)) H):aa tab R k 8 [v] H Q E:=by
 delta j8;right;cases dc ht
 all_goals
  refine cT ht rfl ?_;right
  first
   |exact q
   |(refine cT ht rfl ?_;right;exact q)
def bX (ro:Ro K R)(hk:2<=k)(ht:tyName v H=some t)(q:Q (.bl (el v)) H):aa tab R k 9 [v] H Q E:=by
 delta gE;right;refine aM nofun ht ?_;cases dc ht
 case int i=>
  right;refine aI (λh0=>?_) (λh0=>?_)
  .left;simp only[ro.g_BOUND];right;have e:el (ul i)=decide (i<=1000000000):=by simp[el,h0]
   rw[e]at q;exact q
  .right;have e:el (ul i)=false:=by simp[el,h0]
   rw[e]at q;exact q
 all_goals
  right;exact q
abbrev bad (xs:List V):Option Int:=if xs.length<1\/60<xs.length then some (-1) else(xs.findIdx? λx=>!el x).map λn=>(n:Int)
def Dt (h:¬ (1<=xs.length/\xs.length<=60)):bad xs=some (-1):=by
 unfold bad;rw[if_pos nofun]
def EG {j:Nat}{x:V}(h:1<=xs.length/\xs.length<=60)(hx:xs[j]? =some x)(hc:el x=false)(hb:∀ i y,i<j->xs[i]? =some y->el y=true):bad xs=some j:=by
 unfold bad;rw[if_neg nofun];have:xs.findIdx? (λx=>!el x)=some j:=by
  rw[List.findIdx?_eq_some_iff_getElem];obtain⟨hj,e⟩:=sn.mp hx;refine⟨hj,by rw[e,hc];rfl,λi hi=>?_⟩;rw[hb i xs[i] hi (le _)]
  decide
 rw[this]
 rfl
def nR (h:1<=xs.length/\xs.length<=60)(hb:∀ (i:Nat) y,xs[i]? =some y->el y=true):bad xs=none:=by
 unfold bad;rw[if_neg nofun];have:xs.findIdx? (λx=>!el x)=none:=by
  rw[List.findIdx?_eq_none_iff];intro x hx;obtain⟨i,hi⟩:=List.mem_iff_getElem?.mp hx;rw[hb i x hi]
  rfl
 rw[this]
 rfl
def Bk (h:bad xs=none):1<=xs.length/\xs.length<=60:=by
 unfold bad at h
 split at h
 .cases h
 .omega
def tf {x:V}:(re (Int.toNat (n:Int)) [x]).flatten=re n x:=by
 rw[pi]
 induction n with
 |zero=>rfl
 |succ n ih=>rw[replicate_succ,flatten_cons,ih];rfl
abbrev kq (C:Addr)(fs:List (Str×V))(x:Addr)(fr:Bool):az:=ex λd:Addr=>nB (pt x (.exc C (some d) fs fr)) (pt d (.own x))
def ij {C x:Addr}{fs:List (Str×V)}{fr:Bool}(s:Sep (pt x (.exc C (some d) fs fr)::pt d (.own x)::O) H):Sep (kq C fs x fr::O) H:=Sep.EX.mpr ⟨d,Sep.star.mpr s⟩
def BX {C x:Addr}{fs:List (Str×V)}{fr:Bool}(s:Sep (kq C fs x fr::O) H):∃ d,Sep (pt x (.exc C (some d) fs fr)::pt d (.own x)::O) H:=let⟨d,s⟩:=Sep.EX.mp s;⟨d,Sep.star.mp s⟩
def dG {x:Addr}(hk:1<=k)(s:Sep (pt x (.exc (R.cad 1) none [] true)::O) H)(q:∀ d H',Sep (pt x (.exc (R.cad 1) (some d) [("at",v)] true)::pt d (.own x)::O) H'->Q v4 H'):aa tab R k 0 [u8 x,v] H Q E:=by
 delta cf;right;refine⟨_,1,_,_,_,_,rfl,by grind,rfl,?_⟩;right;refine sU s rfl rfl (λd H hs=>?_);right;exact q d H hs
def A4 (ro:Ro K R)(hk:3<=k)(s:Sep (pt a (v6 xs)::tys xs::O) H)(q0:bad xs=none->∀ H',Sep (pt a (v6 xs)::tys xs::O) H'->Q v4 H')
  (q1:∀ at',bad xs=some at'->∀ x H',Sep (kq (R.cad 1) [("at",ul at')] x false::pt a (v6 xs)::tys xs::O) H'->E x H'):aa tab R k 71 [u8 a] H Q E:=by
 delta eJ;right;refine cT (t:="list") (Dw s.at) rfl ?_;right
 by_cases hl:1<=xs.length/\xs.length<=60
 .refine aG (decide_eq_true nofun) ?_;left;simp only[ro.g_MOST_CELLS];right;refine aG (c:=decide ((xs.length:Int)<=60)) (decide_eq_true nofun) ?_;right;refine rQ (xs:=xs) (λj U H=>∃ y z,U=[some (u8 a),y,z]/\(∀ i w,i<j->xs[i]? =some w->el w=true)/\Sep (pt a (v6 xs)::tys xs::O) H) ?_ ?_ ?_ ?_
  .exact⟨none,none,rfl,λi w h=>absurd h nofun,s⟩
  .rintro j U H ⟨y,z,rfl,_,hs⟩;exact hs.at
  .rintro j x T U H hx ⟨y,z,rfl,hb,hs⟩ hT;have hs1:=hs.nv (xs:=[ul j,x]) hT;left;refine⟨T,_,rfl,.inl (aZ.of hs1.atT),rfl,?_⟩;right;obtain⟨t,ht⟩:=(hs1.pull .k2).FE x (cr hx);refine bX ro nofun ht ?_;right;refine bq (λhc=>?_) (λhc=>?_)
   .right;refine⟨_,_,rfl,λi w hi hw=>?_,hs1.drop⟩
    by_cases e:i=j
    .subst e;rw[hx]at hw;cases hw;exact hc
    .exact hb i w nofun hw
   .right;intro p hp;refine dG nofun (hs1.drop.new hp) (λd H hs=>?_);right;refine dU hs (by ac_rfl) rfl (λH hs=>?_);exact q1 _ (EG hl hx hc hb) p H (ij hs)
  .rintro U H ⟨y,z,rfl,hb,hs⟩;right;exact q0 (nR hl λi w hi=>hb i w (sn.mp hi).1 hi) _ hs
 .have fin:∀ p,H p=none->aa tab R (k-1) 0 [u8 p,ul (-1)] (upd H p (.exc (R.cad 1) none [] true)) (λv H2=>v=v4/\∃ b i dx fs,u8 p=u8 b/\H2 b=some (.exc (R.cad i) dx fs true)/\tab.xc.contains i=true/\E b (upd H2 b (.exc (R.cad i) dx fs false))) E:=by
   intro p hp;refine dG nofun (s.new hp) (λd H hs=>?_);refine⟨rfl,?_⟩;refine dU (G:=⟨tab,R,aa tab R 0,true⟩) hs (by ac_rfl) rfl (λH hs=>?_);exact q1 _ (Dt hl) p H (ij hs)
  by_cases h1:1<=xs.length
  .refine aG (decide_eq_true nofun) ?_;left;simp only[ro.g_MOST_CELLS];right;refine ak (c:=decide ((xs.length:Int)<=60)) (decide_eq_false nofun) ?_;right;exact fin
  .refine ak (decide_eq_false nofun) ?_;right;exact fin
abbrev aH (C p:Addr)(cs ws:List V):az:=ex λx:Addr×Addr×Addr=>nB (pt p (wn C x.1 [("contents",u8 x.2.1),("permits",u8 x.2.2)])) (nB (pt x.1 (.own p)) (nB (pt x.2.1 (v6 cs)) (pt x.2.2 (v6 ws))))
def a6 {C p:Addr}{cs ws:List V}(s:Sep (aH C p cs ws::O) H):∃ dx a b,Sep (pt p (wn C dx [("contents",u8 a),("permits",u8 b)])::pt dx (.own p)::pt a (v6 cs)::pt b (v6 ws)::O) H:=by
 obtain⟨⟨dx,a,b⟩,s⟩:=Sep.EX.mp s;refine⟨dx,a,b,?_⟩;have s1:=Sep.star.mp s;have s2:=Sep.star.mp (s1.pull .k1);have s3:=Sep.star.mp (s2.pull .k1);exact((s3.pull .k2).pull .k3)
def ck {C p b:Addr}{cs ws:List V}(s:Sep (pt p (wn C dx [("contents",u8 a),("permits",u8 b)])::pt dx (.own p)::pt a (v6 cs)::pt b (v6 ws)::O) H):Sep (aH C p cs ws::O) H:=by
 refine Sep.EX.mpr ⟨(dx,a,b),Sep.star.mpr ?_⟩;have s3:=Sep.star.mpr ((s.pull .k3).pull .k3);have s2:=Sep.star.mpr (s3.pull .k2);exact s2.pull .k1
def mD {p:Addr}(ro:Ro K R)(hk:4<=k)(s:Sep (pt p (wn (R.cad 24) dx [])::pt dx (.own p)::pt a (v6 xs)::tys xs::O) H)
  (q0:bad xs=none->∀ H',Sep (aH (R.cad 24) p xs (re xs.length (ut "open"))::pt a (v6 xs)::tys xs::O) H'->Q v4 H')
  (q1:∀ at',bad xs=some at'->∀ x H',Sep (kq (R.cad 1) [("at",ul at')] x false::pt a (v6 xs)::tys xs::O) H'->E x H'):aa tab R k 74 [u8 p,u8 a] H Q E:=by
 delta cS;right;refine A4 (O:=pt p (wn (R.cad 24) dx [])::pt dx (.own p)::O) ro nofun (s.sub (by ac_nf)) (λhb H hs=>?_) (λat' hb x H hs=>?_)
 .have hl:=Bk hb;right;rename_i l H1 hs1 H2 hs2 m H3 hs3 w H4 hs4 H5 hs5;rw[tf]at hs5;exact q0 hb _ (ck (hs5.sub (by ac_nf)))
 .exact q1 at' hb x H (hs.sub (by ac_nf))
def eB {C p:Addr}{cs ws:List V}(s:Sep O H)(h:ag (aH C p cs ws) O Δ):∃ dx a b,H p=some (wn C dx [("contents",u8 a),("permits",u8 b)]):=by
 obtain⟨dx,a,b,hs⟩:=a6 (s.pull h);exact⟨dx,a,b,hs.at⟩
def xb {p:Addr}{cs ws:List V}(hk:1<=k)(s:Sep (aH (R.cad 24) p cs ws::O) H)(q:Q (ul cs.length) H):aa tab R k 75 [u8 p] H Q E:=by
 obtain⟨dx,a,b,hs⟩:=a6 s;delta fL;right;exact q
def CQ {p:Addr}{cs ws:List V}(hk:1<=k)(s:Sep (aH (R.cad 24) p cs ws::O) H)(q:∀ l H',Sep (pt l (v6 cs)::aH (R.cad 24) p cs ws::O) H'->Q (u8 l) H'):aa tab R k 76 [u8 p] H Q E:=by
 obtain⟨dx,a,b,hs⟩:=a6 s;delta gy;right;rename_i l H1 hs1;exact q l H1 ((ck (hs1.sub (by ac_nf))).pull .k1)
def xN {p:Addr}{cs ws:List V}(hk:1<=k)(s:Sep (aH (R.cad 24) p cs ws::O) H)(q:∀ l H',Sep (pt l (v6 ws)::aH (R.cad 24) p cs ws::O) H'->Q (u8 l) H'):aa tab R k 77 [u8 p] H Q E:=by
 obtain⟨dx,a,b,hs⟩:=a6 s;delta dH;right;rename_i l H1 hs1;exact q l H1 ((ck (hs1.sub (by ac_nf))).pull .k1)
def a8 {xs:List α}{x:α}(h0:0<=i)(hx:xs[i.toNat]? =some x):kx xs i=some x:=by
 have h:=L2.ml hx
 rwa [Int.toNat_of_nonneg h0]at h
abbrev ah (ws:List Str)(d:Str)(i:Int):Bool:=decide (0<=i)&&(decide (i<ws.length)&&(match ws[i.toNat]? with
 |some w=>if w="look" then d =="look" else w =="open"
 |none=>false))
def aj {d:Str}(h:ah ws d i=true):0<=i/\i<ws.length:=by
 unfold ah at h;rw[lw,lw,decide_eq_true_eq,decide_eq_true_eq]at h;exact⟨h.1,h.2.1⟩
def vn {p:Addr}{cs:List V}{d:Str}(hk:2<=k)(s:Sep (aH (R.cad 24) p cs (ws.map ut)::O) H)(hl:cs.length=ws.length)(q:Q (.bl (ah ws d i)) H):aa tab R k 79 [u8 p,ut d,ul i] H Q E:=by
 delta ie;right;refine aI (λh0=>?_) (λh0=>?_)
 .obtain⟨dx,a,b,e⟩:=eB s .e;right;refine⟨_,24,_,_,_,rfl,e,rfl,rfl,?_⟩;left;refine xb nofun s ?_;right;refine aI (λh1=>?_) (λh1=>?_)
  .obtain⟨dx,a,b,hs⟩:=a6 s;have h2:i.toNat<ws.length:=by omega
   have e1:ws[i.toNat]? =some ws[i.toNat]:=le h2;generalize ws[i.toNat]=w at e1;have e2:(ws.map ut)[i.toNat]? =some (ut w):=by rw[im,e1];rfl
   have e3:ah ws d i=(if w="look" then d =="look" else w =="open"):=by
    unfold ah;rw[e1,decide_eq_true h0,decide_eq_true (by omega:i<ws.length)]
    rfl
   rw[e3]at q;right;refine ba (by grind) (a8 h0 e2) ?_;right;refine bq (λhw=>?_) (λhw=>?_)
   .have hw:w="look":=by simpa[cJ] using hw
    rw[if_pos hw]at q;right;exact q
   .have hw:¬ w="look":=by simpa[cJ] using hw
    rw[if_neg hw]at q;right;refine ba (by grind) (a8 h0 e2) ?_;right;exact q
  .have e3:ah ws d i=false:=by
    unfold ah;rw[decide_eq_false (by omega:¬ i<ws.length),Bool.false_and,Bool.and_false]
   rw[e3]at q;right;exact q
 .have e3:ah ws d i=false:=by
   unfold ah;rw[decide_eq_false h0,Bool.false_and]
  rw[e3]at q;right;exact q
def dM {x:Addr}{w:V}(hk:1<=k)(s:Sep (pt x (.exc (R.cad 3) none [] true)::O) H)(q:∀ d H',Sep (pt x (.exc (R.cad 3) (some d) [("deed",v),("cell",w)] true)::pt d (.own x)::O) H'->Q v4 H'):aa tab R k 2 [u8 x,v,w] H Q E:=by
 delta dm;right;refine⟨_,3,_,_,_,_,rfl,by grind,rfl,?_⟩;right;refine sU s rfl rfl (λd H hs=>?_);right;refine zE hs (by ac_rfl) rfl rfl (nw rfl) rfl (λH hs=>?_);right;exact q d H hs
def Ej {p:Addr}{cs:List V}(hk:3<=k)(s:Sep (aH (R.cad 24) p cs (ws.map ut)::O) H)(hl:cs.length=ws.length)(q0:ah ws "look" i=true->∀ x,cs[i.toNat]? =some x->Q x H)
  (q1:ah ws "look" i=false->∀ x H',Sep (kq (R.cad 3) [("deed",ut "look"),("cell",ul i)] x false::aH (R.cad 24) p cs (ws.map ut)::O) H'->E x H'):aa tab R k 80 [u8 p,ul i] H Q E:=by
 delta fW;obtain⟨dx,a,b,e⟩:=eB s .e;right;refine⟨_,24,_,_,_,rfl,e,rfl,rfl,?_⟩;left;refine vn nofun s hl ?_;right;refine bq (λhm=>?_) (λhm=>?_)
 .obtain⟨h0,h1⟩:=aj hm;obtain⟨dx,a,b,hs⟩:=a6 s;have h2:i.toNat<cs.length:=by omega
  have e1:cs[i.toNat]? =some cs[i.toNat]:=le h2;right;refine ba (by grind) (a8 h0 e1) ?_;exact q0 hm _ e1
 .right;intro x hx;refine dM nofun (s.new hx) (λd H hs=>?_);right;refine dU hs (by ac_rfl) rfl (λH hs=>?_);exact q1 hm x H (ij hs)
def GC {p:Addr}{cs:List V}(hk:3<=k)(s:Sep (aH (R.cad 24) p cs (ws.map ut)::O) H)(hl:cs.length=ws.length)(q0:ah ws "put" i=true->∀ H',Sep (aH (R.cad 24) p (cs.set i.toNat v) (ws.map ut)::O) H'->Q v4 H')
  (q1:ah ws "put" i=false->∀ x H',Sep (kq (R.cad 3) [("deed",ut "put"),("cell",ul i)] x false::aH (R.cad 24) p cs (ws.map ut)::O) H'->E x H'):aa tab R k 81 [u8 p,ul i,v] H Q E:=by
 delta ic;obtain⟨dx,a,b,e⟩:=eB s .e;right;refine⟨_,24,_,_,_,rfl,e,rfl,rfl,?_⟩;left;refine vn nofun s hl ?_;right;refine bq (λhm=>?_) (λhm=>?_)
 .obtain⟨h0,h1⟩:=aj hm;obtain⟨dx,a,b,hs⟩:=a6 s;right;refine dZ hs (by ac_rfl) (cF h0 nofun) rfl (λH hs=>?_);right;exact q0 hm H (ck hs)
 .right;intro x hx;refine dM nofun (s.new hx) (λd H hs=>?_);right;refine dU hs (by ac_rfl) rfl (λH hs=>?_);exact q1 hm x H (ij hs)
def jJ {x:Addr}{w z:V}(hk:1<=k)(s:Sep (pt x (.exc (R.cad 2) none [] true)::O) H)(q:∀ d H',Sep (pt x (.exc (R.cad 2) (some d) [("low",v),("behind",w),("word",z)] true)::pt d (.own x)::O) H'->Q v4 H'):aa tab R k 1 [u8 x,v,w,z] H Q E:=by
 delta cb;right;refine⟨_,2,_,_,_,_,rfl,by grind,rfl,?_⟩;right;refine sU s rfl rfl (λd H hs=>?_);right;refine zE hs (by ac_rfl) rfl rfl (nw rfl) rfl (λH hs=>?_);right;refine zE hs (by ac_rfl) rfl rfl (nw rfl) rfl (λH hs=>?_);right;exact q d H hs
abbrev fk (w:Str):Bool:="open" ==w||("look" ==w||("shut" ==w||false))
abbrev mJ:V->Bool
 | ut w=>fk w
 |_=>false
def qI (ro:Ro K R)(hk:1<=k)(ht:tyName v H=some t)(q:Q (.bl (mJ v)) H):aa tab R k 72 [v] H Q E:=by
 delta jS;right;cases dc ht
 case str x=>
  right;obtain⟨a,hg,hs⟩:=ro.g_LEAVES;simp only[hg];right;exact eG (xs:=[ut "open",ut "look",ut "shut"]) (ro.hK▸hs _) rfl rfl q
 all_goals
  refine cT ht rfl ?_;right;exact q
abbrev aT (n:Nat):V->V->Bool
 | ul a,ul b=>decide (0<=a)&&(decide (a<=b)&&decide (b<=n))
 |_,_=>false
def nO {w:V}{u:String}(hk:2<=k)(ht:tyName v H=some t)(hu:tyName w H=some u)(q:Q (.bl (aT n v w)) H):aa tab R k 73 [v,w,ul n] H Q E:=by
 delta hG;right;refine aM nofun ht ?_;cases dc ht
 case int i=>
  right;refine aM nofun hu ?_;cases dc hu
  case int j=>
   right;refine aI (λh0=>?_) (λh0=>?_)
   .right;refine aI (λh1=>?_) (λh1=>?_)
    .right;have e:aT n (ul i) (ul j)=decide (j<=n):=by simp[aT,h0,h1]
     rw[e]at q;exact q
    .right;have e:aT n (ul i) (ul j)=false:=by simp[aT,h1]
     rw[e]at q;exact q
   .right;have e:aT n (ul i) (ul j)=false:=by simp[aT,h0]
    rw[e]at q;exact q
  all_goals
   right;exact q
 all_goals
  right;exact q
abbrev jw (w:Str)(ws:List Str)(lo:Nat):Nat->List Str
 |0=>ws
 |n+1=>(jw w ws lo n).set (lo+n) w
def jB {w:Str}{ws:List Str}{lo:Nat}:∀ n,(jw w ws lo n).length=ws.length
 |0=>rfl
 |n+1=>by rw[jw,length_set,jB n]
def A3 {p:Addr}{cs:List V}{v1 v2 v3:V}{t1 t2 t3:String}(ro:Ro K R)(hk:3<=k)(s:Sep (aH (R.cad 24) p cs (ws.map ut)::O) H)(hl:cs.length=ws.length)(h60:ws.length<=60)
  (ht1:tyName v1 H=some t1) (ht2:tyName v2 H=some t2) (ht3:tyName v3 H=some t3)
  (q0:∀ a b w,v1=ul a->v2=ul b->v3=ut w->aT ws.length v1 v2=true->fk w=true->∀ H',Sep (aH (R.cad 24) p cs ((jw w ws a.toNat (b-a).toNat).map ut)::O) H'->Q v4 H')
  (q1:(aT ws.length v1 v2&&mJ v3)=false->∀ x H',Sep (kq (R.cad 2) [("low",v1),("behind",v2),("word",v3)] x false::aH (R.cad 24) p cs (ws.map ut)::O) H'->E x H'):aa tab R k 78 [u8 p,v1,v2,v3] H Q E:=by
 delta fc;obtain⟨dx,a,b,e⟩:=eB s .e;right;refine⟨_,24,_,_,_,rfl,e,rfl,rfl,?_⟩;left;refine xb nofun s ?_;left;rw[hl];refine nO nofun ht1 ht2 ?_;right;have fin:(aT ws.length v1 v2&&mJ v3)=false->∀ x,H x=none->aa tab R (k-1) 1 [u8 x,v1,v2,v3] (upd H x (.exc (R.cad 2) none [] true)) (λv H2=>v=v4/\∃ b i dx fs,u8 x=u8 b/\H2 b=some (.exc (R.cad i) dx fs true)/\tab.xc.contains i=true/\E b (upd H2 b (.exc (R.cad i) dx fs false))) E:=by
  intro hb x hx;refine jJ nofun (s.new hx) (λd H hs=>?_);refine⟨rfl,?_⟩;refine dU (G:=⟨tab,R,aa tab R 0,true⟩) hs (by ac_rfl) rfl (λH hs=>?_);exact q1 hb x H (ij hs)
 refine bq (λhw=>?_) (λhw=>?_)
 .right;refine qI ro nofun ht3 ?_;right;refine bq (λhv=>?_) (λhv=>?_)
  .obtain⟨i,j,rfl,rfl⟩:∃ i j,v1=ul i/\v2=ul j:=by
    unfold aT at hw
    split at hw
    .exact⟨_,_,rfl,rfl⟩
    .cases hw
   obtain⟨w,rfl⟩:∃ w,v3=ut w:=by
    unfold mJ at hv
    split at hv
    .exact⟨_,rfl⟩
    .cases hv
   have hw':0<=i/\i<=j/\j<=ws.length:=by simpa[aT] using hw
   right;refine d9 (λn U H=>∃ y,U=[some (u8 p),some (ul i),some (ul j),some (ut w),y]/\Sep (aH (R.cad 24) p cs ((jw w ws i.toNat n).map ut)::O) H) ?_ ?_ ?_
   .exact⟨none,rfl,s⟩
   .rintro n U H hn ⟨y,rfl,hs⟩;obtain⟨dx,a,b,hs⟩:=a6 hs;right;refine dZ hs (by ac_rfl) (cF nofun (by rw[ce,jB];omega)) rfl (λH hs=>?_);right;refine⟨_,rfl,?_⟩;have e:((jw w ws i.toNat n).map ut).set (i+(n:Int)).toNat (ut w)=(jw w ws i.toNat (n+1)).map ut:=by
     rw[jw,List.map_set,show(i+(n:Int)).toNat=i.toNat+n by omega]
    rw[e]at hs;exact ck hs
   .rintro U H ⟨y,rfl,hs⟩;right;exact q0 i j w rfl rfl rfl hw hv H hs
  .right;exact fin (by rw[hv,Bool.and_false])
 .right;exact fin (by rw[hw,Bool.false_and])
def j5:(10:Int) ^ Int.toNat 9=1000000000:=by decide
local macro_rules| `(tactic|walk_at "dr")=>`(tactic|(refine' EN ?k ?s ?m ?a ?b (λr H hr0 hr1 hs=>?_);(case s=>walk_at "sp");(case k=>exact nofun);(case m=>omega);(case a=>walk_at "ar");(case b=>walk_at "ar")))
local macro_rules| `(tactic|walk_at "gd")=>`(tactic|(walk_at "w";repeat(first|(walk_at "st";walk_at "w")|(walk_at "dr";walk_at "w"))))
def lB (hk:2<=k)(s:Sep (hand h m::O) H)(hm:m<=1099511000000)(q:∀ i H',0<=i->i<=1000000000->Sep (hand h (m+3)::O) H'->Q (ul i) H'):aa tab R k 85 [u8 h] H Q E:=by
 delta dJ;walk_at "gd";refine ax (λh0=>?_) (λh0=>?_)
 .walk_at "gd";rename_i r H2 hr0 hr1 hs2;exact q _ _ nofun nofun (bD hs2 nofun)
 walk_at "gd";refine ax (λh1=>?_) (λh1=>?_)
 .walk_at "gd";rename_i r H2 hr0 hr1 hs2;exact q _ _ (by rw[j5];omega) (by rw[j5];omega) (bD hs2 nofun)
 walk_at "gd";refine ax (λh2=>?_) (λh2=>?_)
 .walk_at "gd";rename_i r H2 hr0 hr1 hs2;exact q _ _ nofun nofun (bD hs2 nofun)
 walk_at "gd";rename_i r H2 hr0 hr1 hs2 r' H3 hr0' hr1' hs3;rw[j5];exact q _ _ nofun nofun (bD hs3 nofun)
abbrev dE (ns:List Int):Prop:=∀ i ∈ ns,0<=i/\i<=1000000000
def qB (h:dE ns)(h0:0<=i)(h1:i<=1000000000):dE (ns++[i]):=λj hj=>by
 rcases mem_append.mp hj with hj|hj
 .exact h j hj
 .rw[List.mem_singleton.mp hj];exact⟨h0,h1⟩
def tX (h:dE ns)(h0:0<=i)(h1:i<=1000000000):dE (ns.set n i):=λj hj=>by
 rcases List.mem_or_eq_of_mem_set hj with hj|rfl
 .exact h j hj
 .exact⟨h0,h1⟩
abbrev bx (f:α->List az):az:=⟨λH D=>∃ x,a9 (f x) H D,λH H' D ⟨x,h⟩ k t=>⟨x,a9.st h k t⟩,λH D D' ⟨x,h⟩ k=>⟨x,a9.up h k⟩⟩
def gC:∀ {O Δ:List az}{D:Addr->Prop},a9 (O++Δ) H D ↔ ∃ D1 D2:Addr->Prop,(∀ a,D1 a->D a)/\(∀ a,D2 a->D a)/\(∀ a,D1 a->D2 a->False)/\a9 O H D1/\a9 Δ H D2
 | [],Δ,D=>⟨λh=>⟨λ_=>False,D,λ_ z=>z.elim,λ_ z=>z,λ_ z _=>z,True.intro,h⟩,λ⟨_,_,_,s2,_,_,h⟩=>a9.up h s2⟩
 |A::O,Δ,D=>by
  constructor
  .rintro⟨E1,E2,s1,s2,dj,hA,h⟩;obtain⟨F1,F2,t1,t2,dk,h1,h2⟩:=gC.mp h;refine⟨λa=>E1 a\/F1 a,F2,λa z=>z.elim (s1 a) λz=>s2 a (t1 a z),λa z=>s2 a (t2 a z),λa z w=>z.elim (λz=>dj a z (t2 a w)) λz=>dk a z w,?_,h2⟩;exact⟨E1,F1,λa z=>.inl z,λa z=>.inr z,λa z w=>dj a z (t1 a w),hA,h1⟩
  .rintro⟨D1,D2,s1,s2,dj,⟨E1,E2,t1,t2,dk,hA,h1⟩,h2⟩;refine⟨E1,λa=>E2 a\/D2 a,λa z=>s1 a (t1 a z),λa z=>z.elim (λz=>s1 a (t2 a z)) (s2 a),λa z w=>w.elim (dk a z) λw=>dj a (t1 a z) w,hA,?_⟩;exact gC.mpr ⟨E2,D2,λa z=>.inl z,λa z=>.inr z,λa z w=>dj a (t2 a z) w,h1,h2⟩
def oB {f:α->List az}(s:Sep (bx f::O) H):∃ x,Sep (f x++O) H:=by
 obtain⟨D,k,D1,D2,s1,s2,dj,⟨x,h1⟩,h2⟩:=s;exact⟨x,D,k,gC.mpr ⟨D1,D2,s1,s2,dj,h1,h2⟩⟩
def mG {f:α->List az}(x:α)(s:Sep (f x++O) H):Sep (bx f::O) H:=by
 obtain⟨D,k,h⟩:=s;obtain⟨D1,D2,s1,s2,dj,h1,h2⟩:=gC.mp h;exact⟨D,k,D1,D2,s1,s2,dj,⟨x,h1⟩,h2⟩
abbrev nD:List Str:=["here","there","left","way","sign","met"]
abbrev tJ:List Key:=[.inr "here",.inr "there",.inr "left",.inr "way",.inr "sign",.inr "met"]
abbrev dX:V->Bool
 | ul i=>decide (-1000000000<=i)&&decide (i<=1000000000)
 |_=>false
abbrev kL (a b:Int):V->Bool
 | ul i=>i ==a||i ==b
 |_=>false
abbrev bb:Nat->V->Bool
 |0,v=>dX v
 |1,v=>dX v
 |3,v=>kL 1 (-1) v
 |5,v=>kL 0 1 v
 |_,v=>el v
def dC (ro:Ro K R)(hk:2<=k)(ht:tyName v H=some t)(q:Q (.bl (dX v)) H):aa tab R k 11 [v] H Q E:=by
 delta ig;right;refine aM nofun ht ?_;cases dc ht
 case int i=>
  left;refine aG rfl ?_;left;simp only[ro.g_BOUND];right;refine aI (λh0=>?_) (λh0=>?_)
  .left;simp only[ro.g_BOUND];right;have e:dX (ul i)=decide (i<=1000000000):=by simp[dX,h0]
   rw[e]at q;exact q
  .right;have e:dX (ul i)=false:=by simp[dX,h0]
   rw[e]at q;exact q
 all_goals
  right;exact q
def j6 {j:Nat}{x:Str}(h:nD[j]? =some x):(j=0/\x="here")\/(j=1/\x="there")\/(j=2/\x="left")\/(j=3/\x="way")\/(j=4/\x="sign")\/(j=5/\x="met"):=by
 rcases j with _|_|_|_|_|_|j
 .cases h;exact .inl ⟨rfl,rfl⟩
 .cases h;exact .inr (.inl ⟨rfl,rfl⟩)
 .cases h;exact .inr (.inr (.inl ⟨rfl,rfl⟩))
 .cases h;exact .inr (.inr (.inr (.inl ⟨rfl,rfl⟩)))
 .cases h;exact .inr (.inr (.inr (.inr (.inl ⟨rfl,rfl⟩))))
 .cases h;exact .inr (.inr (.inr (.inr (.inr ⟨rfl,rfl⟩))))
 .exact absurd h (by simp[nD])
local macro_rules| `(tactic|walk_at "sc")=>`(tactic|first|(refine aG (by decide+kernel) ?_;walk_at "go")|(refine ak (by decide+kernel) ?_;walk_at "go"))
def qG {j:Nat}{x:Str}(ro:Ro K R)(hk:3<=k)(hj:nD[j]? =some x)(ht:tyName v H=some t)(q:Q (.bl (bb j v)) H):aa tab R k 12 [ut x,v] H Q E:=by
 delta wq;rcases j6 hj with⟨rfl,rfl⟩|⟨rfl,rfl⟩|⟨rfl,rfl⟩|⟨rfl,rfl⟩|⟨rfl,rfl⟩|⟨rfl,rfl⟩
 all_goals right
 all_goals repeat walk_at "sc"
 .exact dC ro nofun ht q
 .exact dC ro nofun ht q
 .exact bX ro nofun ht q
 .refine aM nofun ht ?_;cases dc ht
  case int i=>
   right;refine ax (λh0=>?_) (λh0=>?_)
   .right;have e:bb 3 (ul i)=true:=by simp[bb,kL,h0]
    rw[e]at q;exact q
   .right;have e:bb 3 (ul i)=(i == -1):=by simp[bb,kL,h0]
    rw[e]at q;exact q
  all_goals
   right;exact q
 .exact bX ro nofun ht q
 .refine aM nofun ht ?_;cases dc ht
  case int i=>
   right;refine ax (λh0=>?_) (λh0=>?_)
   .right;have e:bb 5 (ul i)=true:=by simp[bb,kL,h0]
    rw[e]at q;exact q
   .right;have e:bb 5 (ul i)=(i ==1):=by simp[bb,kL,h0]
    rw[e]at q;exact q
  all_goals
   right;exact q
abbrev boxes (R:Rt)(b:Addr)(ns:List Int):az:=bx λx:Addr×Addr=>[pt b (wn (R.cad 9) x.1 [("numbers",u8 x.2)]),pt x.1 (.own b),pt x.2 (.dK (tJ.zip (ns.map ul))),pu (ns.length=6)]
def fP {b:Addr}(s:Sep (boxes R b ns::O) H):∃ dx d,ns.length=6/\Sep (pt b (wn (R.cad 9) dx [("numbers",u8 d)])::pt dx (.own b)::pt d (.dK (tJ.zip (ns.map ul)))::O) H:=by
 obtain⟨⟨dx,d⟩,s⟩:=oB s;have s:Sep (pt b (wn (R.cad 9) dx [("numbers",u8 d)])::pt dx (.own b)::pt d (.dK (tJ.zip (ns.map ul)))::pu (ns.length=6)::O) H:=s;have p:=(s.pull .k3).pure;exact⟨dx,d,p,(s.pull .k3).drop⟩
def fM {b:Addr}(hn:ns.length=6)(s:Sep (pt b (wn (R.cad 9) dx [("numbers",u8 d)])::pt dx (.own b)::pt d (.dK (tJ.zip (ns.map ul)))::O) H):Sep (boxes R b ns::O) H:=
 mG (dx,d) (Sep.push .k3 (Sep.AS hn s))
def six {ns:List α}(h:ns.length=6):∃ a b c d e f,ns=[a,b,c,d,e,f]:=by
 match ns,h with
 | [a,b,c,d,e,f],_=>exact⟨a,b,c,d,e,f,rfl⟩
def si {j:Nat}{x:Str}(hn:ns.length=6)(hj:nD[j]? =some x):∃ i,ns[j]? =some i/\i7 (tJ.zip (ns.map ul)) (.inr x)=some (ul i):=by
 obtain⟨a,b,c,d,e,f,rfl⟩:=six hn;rcases j6 hj with⟨rfl,rfl⟩|⟨rfl,rfl⟩|⟨rfl,rfl⟩|⟨rfl,rfl⟩|⟨rfl,rfl⟩|⟨rfl,rfl⟩<;>exact⟨_,rfl,rfl⟩
def Ah {b:Addr}(ro:Ro K R)(hk:1<=k)(s:Sep (boxes R b ns::O) H)(q:∀ t H',Sep (tu t (ns.map ul)::boxes R b ns::O) H'->Q (u8 t) H'):aa tab R k 16 [u8 b] H Q E:=by
 obtain⟨dx,d,hn,s⟩:=fP s;delta fK;right;obtain⟨a,hg,hS⟩:=ro.g_NAMES;simp only[hg];rw[<-ro.hK]at hS;right;refine Ga (hS H) ?_;refine EM (xs:=nD.map ut) (nw rfl) (λD ys H=>ys=(ns.map ul).take ys.length/\Sep (pt D (v6 ys)::pt b (wn (R.cad 9) dx [("numbers",u8 d)])::pt dx (.own b)::pt d (.dK (tJ.zip (ns.map ul)))::O) H) ?_ ?_ ?_ ?_
 .intro D ys H _;exact hS H
 .intro D hD;exact⟨rfl,s.new hD⟩
 .rintro D ys x H' hx ⟨e,hs⟩;rw[im]at hx;obtain⟨z,hz,rfl⟩:=nb.mp hx;obtain⟨i,h1,h2⟩:=si hn hz;right;refine lR (k:=.inr z) (by grind) h2 ?_;have hlt:=(sn.mp h1).1;refine tO.mk (by grind) nofun ⟨?_,?_⟩
  .have e2:(ns.map ul)[ys.length]? =some (ul i):=by rw[im,h1];rfl
   rw[ci,f8,take_succ,e2]
   conv=>lhs;rw[e]
   rfl
  .exact hs.set rfl
 .rintro D ys H' hl ⟨e,hs⟩;have e2:ys=ns.map ul:=by
   rw[e,hl];rw[List.take_of_length_le];simp[nD,hn]
  subst e2;right;refine CV hs (by grind) (λp H hs=>?_);right;refine q p H ?_;refine Sep.pull .k1 (fM (dx:=dx) (d:=d) hn ?_);walk_at "sp"
def sr {x:Addr}(ro:Ro K R)(hk:4<=k)(hn:ns.length=6)(hf:∀ (j:Nat) i,ns[j]? =some i->bb j (ul i)=true) (s:Sep (pt x (wn (R.cad 9) dx [])::pt dx (.own x)::O) H) (q:∀ H',Sep (boxes R x ns::O) H'->Q v4 H'):
  aa tab R k 13 (u8 x::ns.map ul) H Q E:=by
 obtain⟨a0,a1,a2,a3,a4,a5,rfl⟩:=six hn;delta cR;right;rename_i p H1 hs1;obtain⟨na,hg,hS⟩:=ro.g_NAMES;simp only[hg];rw[<-ro.hK]at hS;right;refine Ib (tp1:=true) (tp2:=true) (xs:=nD.map ut) (ys:=[ul a0,ul a1,ul a2,ul a3,ul a4,ul a5]) (hS _) (aZ.of hs1.at) ?_;refine AF (xs:=nD.map ut) (ys:=[ul a0,ul a1,ul a2,ul a3,ul a4,ul a5]) (λj U H=>∃ v w,U=[some (u8 x),some (ul a0),some (ul a1),some (ul a2),some (ul a3),some (ul a4),some (ul a5),some (u8 p),v,w]/\Sep (pt p (wf [ul a0,ul a1,ul a2,ul a3,ul a4,ul a5])::pt x (wn (R.cad 9) dx [])::pt dx (.own x)::O) H) rfl ?_ ?_ ?_ ?_
 .exact⟨none,none,rfl,hs1⟩
 .rintro j U H ⟨v,w,rfl,hs⟩;exact⟨hS _,aZ.of hs.at⟩
 .rintro j y z T U H hy hz ⟨v,w,rfl,hs⟩ hT;rw[im]at hy;obtain⟨nm,hnm,rfl⟩:=nb.mp hy;obtain⟨i,hi,rfl⟩:∃ i,([a0,a1,a2,a3,a4,a5]:List Int)[j]? =some i/\z=ul i:=by
   have hz':(([a0,a1,a2,a3,a4,a5]:List Int).map ul)[j]? =some z:=hz;rw[im]at hz';obtain⟨i,h1,h2⟩:=nb.mp hz';exact⟨i,h1,h2.symm⟩
  have hs2:=hs.nv (xs:=[ut nm,ul i]) hT;left;refine⟨T,_,rfl,.inl (aZ.of hs2.atT),rfl,?_⟩;right;refine qG ro nofun hnm rfl ?_;rw[hf j i hi];right;exact⟨_,_,rfl,hs2.drop⟩
 .rintro U H ⟨v,w,rfl,hs⟩;right;simp only[hg];right;refine GD (tp1:=true) (tp2:=true) (ks:=tJ) (ys:=([a0,a1,a2,a3,a4,a5]:List Int).map ul) hs (hS _) (aZ.of hs.at) (by decide+kernel) rfl (nw rfl) (λd H2 hs2=>?_);right;rename_i H3 hs3;refine q _ ?_;refine fM (dx:=dx) (d:=d) rfl ?_;walk_at "sp"
def yh {j:Nat}{x:Str}(ro:Ro K R)(hk:1<=k)(hj:nD[j]? =some x)(q:Q (.bl true) H):aa tab R k 10 [ut x] H Q E:=by
 delta jH;right;obtain⟨a,hg,hs⟩:=ro.g_NAMES;simp only[hg];have hs':=hs H;rw[<-ro.hK]at hs';right;refine eG hs' rfl rfl ?_;rcases j6 hj with⟨rfl,rfl⟩|⟨rfl,rfl⟩|⟨rfl,rfl⟩|⟨rfl,rfl⟩|⟨rfl,rfl⟩|⟨rfl,rfl⟩<;>exact q
def cX {b:Addr}{j:Nat}{x:Str}(ro:Ro K R)(hk:2<=k)(s:Sep (boxes R b ns::O) H)(hj:nD[j]? =some x)(hi:ns[j]? =some i)(q:Q (ul i) H):aa tab R k 14 [u8 b,ut x] H Q E:=by
 obtain⟨dx,d,hn,s⟩:=fP s;delta e9;right;refine yh ro nofun hj ?_;right;obtain⟨i',h1,h2⟩:=si hn hj;rw[hi]at h1;cases h1;exact lR (k:=.inr x) (by grind) h2 q
def tT {b:Addr}(ro:Ro K R)(hk:5<=k)(s:Sep (boxes R b ns::O) H)(q:∀ c H',Sep (boxes R c ns::boxes R b ns::O) H'->Q (u8 c) H'):aa tab R k 17 [u8 b] H Q E:=by
 delta d8;right;intro x dx h1 h2 h3;refine sr (ns:=[0,0,0,1,0,0]) ro nofun rfl ?_ (g7 s h1 h2 h3) (λH1 hs1=>?_)
 .intro j i hi;rcases j with _|_|_|_|_|_|j<;>first|(cases hi;rfl)|exact absurd hi (by simp)
 refine⟨rfl,?_⟩;obtain⟨dx1,d1,hn1,hs2⟩:=fP hs1;obtain⟨dx2,d2,hn2,hs3⟩:=fP (hs2.pull .k3);right;refine sP hs3 (by grind) (λd3 H3 hs4=>?_);right;rename_i H4 hs5;refine q _ _ ?_;refine fM (dx:=dx1) (d:=d3) hn2 ?_;refine Sep.push .k3 (fM (dx:=dx2) (d:=d2) hn2 ?_);walk_at "sp"
def pv (hk:1<=k)(ht:tyName v H=some t)(q:Q (.bl (qr v)) H):aa tab R k 87 [v] H Q E:=by
 delta gi;right;cases dc ht
 all_goals
  refine cT ht rfl ?_;right
  first
   |exact q
   |(refine cT ht rfl ?_;right;exact q)
def gd {x:Addr}{w:V}(hk:1<=k)(s:Sep (pt x (.exc (R.cad 4) none [] true)::O) H)(q:∀ d H',Sep (pt x (.exc (R.cad 4) (some d) [("box",v),("number",w)] true)::pt d (.own x)::O) H'->Q v4 H'):aa tab R k 3 [u8 x,v,w] H Q E:=by
 delta cV;right;refine⟨_,4,_,_,_,_,rfl,by grind,rfl,?_⟩;right;refine sU s rfl rfl (λd H hs=>?_);right;refine zE hs (by ac_rfl) rfl rfl (nw rfl) rfl (λH hs=>?_);right;exact q d H hs
abbrev FA:V->Bool
 | ut x=>E0 (ut x) (nD.map ut)
 |_=>false
def mj (ro:Ro K R)(hk:1<=k)(ht:tyName v H=some t)(q:Q (.bl (FA v)) H):aa tab R k 10 [v] H Q E:=by
 delta jH;right;obtain⟨a,hg,hs⟩:=ro.g_NAMES;have hs':=hs H;rw[<-ro.hK]at hs';cases dc ht
 case str x=>
  refine cT ht rfl ?_;left;refine aG rfl ?_;left;simp only[hg];right;exact eG hs' rfl rfl q
 all_goals
  refine cT ht rfl ?_;right;exact q
def qO {j:Nat}{x:Str}(hj:nD[j]? =some x):FA (ut x)=true:=by
 rcases j6 hj with⟨rfl,rfl⟩|⟨rfl,rfl⟩|⟨rfl,rfl⟩|⟨rfl,rfl⟩|⟨rfl,rfl⟩|⟨rfl,rfl⟩<;>rfl
def rO {j:Nat}{x:Str}(hn:ns.length=6)(hj:nD[j]? =some x):putK (tJ.zip (ns.map ul)) (.inr x) (ul i)=tJ.zip ((ns.set j i).map ul):=by
 obtain⟨a,b,c,d,e,f,rfl⟩:=six hn;rcases j6 hj with⟨rfl,rfl⟩|⟨rfl,rfl⟩|⟨rfl,rfl⟩|⟨rfl,rfl⟩|⟨rfl,rfl⟩|⟨rfl,rfl⟩<;>rfl
def Cn {b:Addr}{j:Nat}{x:Str}(ro:Ro K R)(hk:4<=k)(s:Sep (boxes R b ns::O) H)(hj:nD[j]? =some x)(hf:bb j (ul i)=true)(q:∀ H',Sep (boxes R b (ns.set j i)::O) H'->Q v4 H'):aa tab R k 15 [u8 b,ut x,ul i] H Q E:=by
 obtain⟨dx,d,hn,s⟩:=fP s;delta cZ;right;refine mj (t:="str") ro nofun rfl ?_;rw[qO hj];right;refine qG ro nofun hj rfl ?_;rw[hf];right;refine B7 (k:=.inr x) (kvs':=tJ.zip ((ns.set j i).map ul)) s (by ac_rfl) (by rw[length_zip,ce,hn];decide) (rO hn hj) (λH1 hs1=>?_);right;exact q H1 (fM (by rw[length_set];exact hn) hs1)
def qw {b:Addr}{j:Nat}{x:Str}(ro:Ro K R)(hk:4<=k)(s:Sep (boxes R b ns::O) H)(hj:nD[j]? =some x)(ht:tyName v H=some t)(hf:bb j v=false)(q:∀ e d H',Sep (pt e (.exc (R.cad 4) (some d) [("box",ut x),("number",v)] false)::pt d (.own e)::boxes R b ns::O) H'->E e H'):aa tab R k 15 [u8 b,ut x,v] H Q E:=by
 delta cZ;right;refine mj (t:="str") ro nofun rfl ?_;rw[qO hj];right;refine qG ro nofun hj ht ?_;rw[hf];right;intro e he;refine gd nofun (s.new he) (λd H3 hs3=>⟨rfl,?_⟩);exact dU (G:=⟨tab,R,aa tab R (k-1),true⟩) hs3 .e rfl (λH4 hs4=>q e d H4 hs4)
abbrev Ob (R:Rt)(A:az)(b:Addr)(i:Nat)(fl:List Str):Prop:=∀ H D,A.p H D->∃ dx fs,H b=some (wn (R.cad i) dx fs)/\fs.map (·.1)=fl
def sX {m:Str}:∀ {fs:List (Str×V)},(fs.map (·.1)).all (λx=>!(m ==x))=true->fs.lookup m=none
 | [],_=>rfl
 |(x,v)::fs,h=>by
  simp only[map_cons,all_cons,lw]at h;have h1:(m ==x)=false:=by simpa using h.1
  rw[lookup_cons,h1];exact sX h.2
def ae {b:Addr}{i f:Nat}{fl:List Str}{m:Str}{X:Nat->Prop}(o:Ob G.R A b i fl)(s:Sep O H)(p:ag A O Δ)(hm:fl.all (λx=>!(m ==x))=true) (hf:G.T.me.lookup (i,m)=some f) (h:X f):
  ∃ p' i' dx fs f',u8 b=u8 p'/\H p'=some (wn (G.R.cad i') dx fs)/\fs.lookup m=none/\G.T.me.lookup (i',m)=some f'/\X f':=by
 obtain⟨D,k,D1,D2,s1,s2,dj,h1,h2⟩:=s.pull p;obtain⟨dx,fs,e1,e2⟩:=o H D1 h1;exact⟨b,i,dx,fs,f,rfl,e1,sX (e2▸hm),hf,h⟩
structure Bx where
 h:Int
 t:Int
 l:Int
 w:Int
 s:Int
 m:Int
abbrev Bx.ls (x:Bx):List Int:=[x.h,x.t,x.l,x.w,x.s,x.m]
abbrev Bx.ok (x:Bx):Prop:=(-1000000000<=x.h/\x.h<=1000000000)/\(-1000000000<=x.t/\x.t<=1000000000)/\(0<=x.l/\x.l<=1000000000)/\(x.w=1\/x.w= -1)/\(0<=x.s/\x.s<=1000000000)/\(x.m=0\/x.m=1)
abbrev ar (R:Rt)(b:Addr)(x:Bx):az:=bx λ_:Unit=>[boxes R b x.ls,pu x.ok]
variable {x:Bx}
def di {b:Addr}(s:Sep (ar R b x::O) H):x.ok/\Sep (boxes R b x.ls::O) H:=by
 obtain⟨_,s⟩:=oB s;have s:Sep (boxes R b x.ls::pu x.ok::O) H:=s;exact⟨(s.pull .k1).pure,(s.pull .k1).drop⟩
def lz {b:Addr}(hx:x.ok)(s:Sep (boxes R b x.ls::O) H):Sep (ar R b x::O) H:=mG () (Sep.push .k1 (Sep.AS hx s))
def lu {b:Addr}(s:Sep O H)(p:ag (ar R b x) O Δ):x.ok:=(di (s.pull p)).1
def aX {b:Addr}:Ob R (ar R b x) b 9 ["numbers"]:=by
 rintro H D ⟨_,D1,D2,_,_,_,⟨⟨dx,d⟩,E1,E2,_,_,_,⟨_,h⟩,_⟩,_⟩;exact⟨dx,_,h,rfl⟩
def C3 (h:x.ok):∀ (j:Nat) i,x.ls[j]? =some i->bb j (ul i)=true:=by
 obtain⟨⟨h1,h2⟩,⟨h3,h4⟩,⟨h5,h6⟩,h7,⟨h8,h9⟩,h10⟩:=h;intro j i hi;rcases j with _|_|_|_|_|_|j
 .cases hi;simp[bb,dX,h1,h2]
 .cases hi;simp[bb,dX,h3,h4]
 .cases hi;simp[bb,el,h5,h6]
 .cases hi;rcases h7 with e|e<;>rw[e]<;>rfl
 .cases hi;simp[bb,el,h8,h9]
 .cases hi;rcases h10 with e|e<;>rw[e]<;>rfl
 .exact absurd hi (by simp[Bx.ls])
def tG (h: -1000000000<=i/\i<=1000000000):dX (ul i)=true:=by simp[dX,h.1,h.2]
def sM (h:0<=i/\i<=1000000000):el (ul i)=true:=by simp[el,h.1,h.2]
section
variable {b:Addr}{h t l w s m i:Int}
def E8 (ro:Ro K R)(hk:2<=k)(z:Sep O H)(p:ag (ar R b ⟨h,t,l,w,s,m⟩) O Δ)(q:Q (ul h) H):aa tab R k 14 [u8 b,ut "here"] H Q E:=cX (j:=0) ro hk (di (z.pull p)).2 rfl rfl q
def Gi (ro:Ro K R)(hk:2<=k)(z:Sep O H)(p:ag (ar R b ⟨h,t,l,w,s,m⟩) O Δ)(q:Q (ul t) H):aa tab R k 14 [u8 b,ut "there"] H Q E:=cX (j:=1) ro hk (di (z.pull p)).2 rfl rfl q
def D6 (ro:Ro K R)(hk:2<=k)(z:Sep O H)(p:ag (ar R b ⟨h,t,l,w,s,m⟩) O Δ)(q:Q (ul l) H):aa tab R k 14 [u8 b,ut "left"] H Q E:=cX (j:=2) ro hk (di (z.pull p)).2 rfl rfl q
def Dj (ro:Ro K R)(hk:2<=k)(z:Sep O H)(p:ag (ar R b ⟨h,t,l,w,s,m⟩) O Δ)(q:Q (ul w) H):aa tab R k 14 [u8 b,ut "way"] H Q E:=cX (j:=3) ro hk (di (z.pull p)).2 rfl rfl q
def Jg (ro:Ro K R)(hk:2<=k)(z:Sep O H)(p:ag (ar R b ⟨h,t,l,w,s,m⟩) O Δ)(q:Q (ul s) H):aa tab R k 14 [u8 b,ut "sign"] H Q E:=cX (j:=4) ro hk (di (z.pull p)).2 rfl rfl q
def GB (ro:Ro K R)(hk:2<=k)(z:Sep O H)(p:ag (ar R b ⟨h,t,l,w,s,m⟩) O Δ)(q:Q (ul m) H):aa tab R k 14 [u8 b,ut "met"] H Q E:=cX (j:=5) ro hk (di (z.pull p)).2 rfl rfl q
def pV {y:Bx}{j:Nat}{nm:Str}(ro:Ro K R)(hk:4<=k)(z:Sep O H)(r:aJ (ar R b x) (ar R b y) O Γ')(hj:nD[j]? =some nm)(hf:bb j (ul i)=true)(hx:x.ls.set j i=y.ls)(hy:x.ok->y.ok)(q:∀ H',Sep Γ' H'->Q v4 H'):aa tab R k 15 [u8 b,ut nm,ul i] H Q E:=by
 obtain⟨Δ,h1,h2⟩:=r.bp;obtain⟨hok,z2⟩:=di (z.pull h1);refine Cn ro hk z2 hj hf (λH' z3=>q H' (Sep.push h2 (lz (hy hok) ?_)));rw[hx]at z3;exact z3
def GF (ro:Ro K R)(hk:4<=k)(z:Sep O H)(r:aJ (ar R b ⟨h,t,l,w,s,m⟩) (ar R b ⟨i,t,l,w,s,m⟩) O Γ')(hi: -1000000000<=i/\i<=1000000000)(q:∀ H',Sep Γ' H'->Q v4 H'):aa tab R k 15 [u8 b,ut "here",ul i] H Q E:=
 pV (j:=0) ro hk z r rfl (tG hi) rfl (λ⟨_,a⟩=>⟨hi,a⟩) q
def GH (ro:Ro K R)(hk:4<=k)(z:Sep O H)(r:aJ (ar R b ⟨h,t,l,w,s,m⟩) (ar R b ⟨h,i,l,w,s,m⟩) O Γ')(hi: -1000000000<=i/\i<=1000000000)(q:∀ H',Sep Γ' H'->Q v4 H'):aa tab R k 15 [u8 b,ut "there",ul i] H Q E:=
 pV (j:=1) ro hk z r rfl (tG hi) rfl (λ⟨a1,_,a⟩=>⟨a1,hi,a⟩) q
def Gn (ro:Ro K R)(hk:4<=k)(z:Sep O H)(r:aJ (ar R b ⟨h,t,l,w,s,m⟩) (ar R b ⟨h,t,i,w,s,m⟩) O Γ')(hi:0<=i/\i<=1000000000)(q:∀ H',Sep Γ' H'->Q v4 H'):aa tab R k 15 [u8 b,ut "left",ul i] H Q E:=
 pV (j:=2) ro hk z r rfl (sM hi) rfl (λ⟨a1,a2,_,a⟩=>⟨a1,a2,hi,a⟩) q
def Iy (ro:Ro K R)(hk:4<=k)(z:Sep O H)(r:aJ (ar R b ⟨h,t,l,w,s,m⟩) (ar R b ⟨h,t,l,w,s,i⟩) O Γ')(hi:i=0\/i=1)(q:∀ H',Sep Γ' H'->Q v4 H'):aa tab R k 15 [u8 b,ut "met",ul i] H Q E:=
 pV (j:=5) ro hk z r rfl (by rcases hi with rfl|rfl<;>rfl) rfl (λ⟨a1,a2,a3,a4,a5,_⟩=>⟨a1,a2,a3,a4,a5,hi⟩) q
def Aq (ro:Ro K R)(hk:1<=k)(z:Sep O H)(p:ag (ar R b x) O Δ)(q:∀ t H',Sep (tu t (x.ls.map ul)::O) H'->Q (u8 t) H'):aa tab R k 16 [u8 b] H Q E:=by
 obtain⟨hok,z2⟩:=di (z.pull p);exact Ah ro hk z2 (λt H' z3=>q t H' (Sep.push (.t p) (lz hok (z3.pull .k1))))
def Ag (ro:Ro K R)(hk:4<=k)(hx:x.ok)(z:Sep (pt b (wn (R.cad 9) dx [])::pt dx (.own b)::O) H)(q:∀ H',Sep (ar R b x::O) H'->Q v4 H'):
  aa tab R k 13 (u8 b::x.ls.map ul) H Q E:=sr ro hk rfl (C3 hx) z (λH' z2=>q H' (lz hx z2))
def x6 (ro:Ro K R)(hk:4<=k)(hx:(Bx.mk h t l w s m).ok)(z:Sep (pt b (wn (R.cad 9) dx [])::pt dx (.own b)::O) H)(q:∀ H',Sep (ar R b ⟨h,t,l,w,s,m⟩::O) H'->Q v4 H'):
  aa tab R k 13 [u8 b,ul h,ul t,ul l,ul w,ul s,ul m] H Q E:=Ag (x:=⟨h,t,l,w,s,m⟩) ro hk hx z q
end
abbrev gt (cs:List Int)(i:Int):Int:=(cs[i.toNat]?).getD 0
def FV {cs:List Int}{x:Int}(h:cs[i.toNat]? =some x):gt cs i=x:=by unfold gt;rw[h];rfl
def zr {cs:List Int}(h0:0<=i)(h1:i<cs.length):cs[i.toNat]? =some (gt cs i):=by
 unfold gt;rw[le nofun]
 rfl
def fX {cs:List Int}(h0:0<=i)(h1:i<cs.length):kx (cs.map ul) i=some (ul (gt cs i)):=a8 h0 (by rw[im,zr h0 h1];rfl)
def w8 {cs:List Int}(hc:dE cs):0<=gt cs i/\gt cs i<=1000000000:=by
 unfold gt;cases e:cs[i.toNat]? with
 |none=>exact⟨by decide,by decide⟩
 |some x=>exact hc x (cr e)
abbrev yp (cs:List Int)(ws:List Str):Prop:=cs.length=ws.length/\1<=cs.length/\cs.length<=60/\dE cs
abbrev ay (R:Rt)(a:Addr)(cs:List Int)(ws:List Str):az:=bx λ_:Unit=>[aH (R.cad 24) a (cs.map ul) (ws.map ut),pu (yp cs ws)]
def fZ {cs:List Int}(s:Sep (ay R a cs ws::O) H):yp cs ws/\Sep (aH (R.cad 24) a (cs.map ul) (ws.map ut)::O) H:=by
 obtain⟨_,s⟩:=oB s;have s:Sep (aH (R.cad 24) a (cs.map ul) (ws.map ut)::pu (yp cs ws)::O) H:=s;exact⟨(s.pull .k1).pure,(s.pull .k1).drop⟩
def fN {cs:List Int}(hx:yp cs ws)(s:Sep (aH (R.cad 24) a (cs.map ul) (ws.map ut)::O) H):Sep (ay R a cs ws::O) H:=mG () (Sep.push .k1 (Sep.AS hx s))
def cH {cs:List Int}(s:Sep O H)(p:ag (ay R a cs ws) O Δ):yp cs ws:=(fZ (s.pull p)).1
def bA {cs:List Int}:Ob R (ay R a cs ws) a 24 ["contents","permits"]:=by
 rintro H D ⟨_,D1,D2,_,_,_,⟨⟨dx,c,d⟩,E1,E2,_,_,_,⟨_,h⟩,_⟩,_⟩;exact⟨dx,_,h,rfl⟩
section
variable {a:Addr}{cs:List Int}{ws:List Str}{i v:Int}
def c6 (hk:3<=k)(z:Sep O H)(p:ag (ay R a cs ws) O Δ)(q0:ah ws "look" i=true->Q (ul (gt cs i)) H)
  (q1:ah ws "look" i=false->∀ e H',Sep (kq (R.cad 3) [("deed",ut "look"),("cell",ul i)] e false::O) H'->E e H'):aa tab R k 80 [u8 a,ul i] H Q E:=by
 obtain⟨hok,z2⟩:=fZ (z.pull p);refine Ej hk z2 (by rw[ce];exact hok.1) (λhm x hx=>?_) (λhm e H' z3=>q1 hm e H' (Sep.push (.t p) (fN hok (z3.pull .k1))));rw[im]at hx;obtain⟨y,hy,rfl⟩:=nb.mp hx;rw[<-FV hy];exact q0 hm
def jK (hk:3<=k)(z:Sep O H)(r:aJ (ay R a cs ws) (ay R a (cs.set i.toNat v) ws) O Γ')(hv:0<=v/\v<=1000000000)(q0:ah ws "put" i=true->∀ H',Sep Γ' H'->Q v4 H')
  (q1:ah ws "put" i=false->∀ e H',Sep (kq (R.cad 3) [("deed",ut "put"),("cell",ul i)] e false::O) H'->E e H'):aa tab R k 81 [u8 a,ul i,ul v] H Q E:=by
 obtain⟨Δ,p,p'⟩:=r.bp;obtain⟨hok,z2⟩:=fZ (z.pull p);refine GC hk z2 (by rw[ce];exact hok.1) (λhm H' z3=>q0 hm H' ?_) (λhm e H' z3=>q1 hm e H' (Sep.push (.t p) (fN hok (z3.pull .k1))));refine Sep.push p' (fN ⟨by rw[length_set];exact hok.1,by rw[length_set];exact hok.2.1,by rw[length_set];exact hok.2.2.1,tX hok.2.2.2 hv.1 hv.2⟩ ?_);rw[List.map_set];exact z3
def Dp {d:Str}(hk:2<=k)(z:Sep O H)(p:ag (ay R a cs ws) O Δ)(q:Q (.bl (ah ws d i)) H):aa tab R k 79 [u8 a,ut d,ul i] H Q E:=by
 obtain⟨hok,z2⟩:=fZ (z.pull p);exact vn hk z2 (by rw[ce];exact hok.1) q
def zB (hk:1<=k)(z:Sep O H)(p:ag (ay R a cs ws) O Δ)(q:∀ l H',Sep (pt l (v6 (cs.map ul))::O) H'->Q (u8 l) H'):aa tab R k 76 [u8 a] H Q E:=by
 obtain⟨hok,z2⟩:=fZ (z.pull p);exact CQ hk z2 (λl H' z3=>q l H' (Sep.push (.t p) (fN hok (z3.pull .k1))))
def tW (hk:1<=k)(z:Sep O H)(p:ag (ay R a cs ws) O Δ)(q:∀ l H',Sep (pt l (v6 (ws.map ut))::O) H'->Q (u8 l) H'):aa tab R k 77 [u8 a] H Q E:=by
 obtain⟨hok,z2⟩:=fZ (z.pull p);exact xN hk z2 (λl H' z3=>q l H' (Sep.push (.t p) (fN hok (z3.pull .k1))))
end
def uH {cs:List Int}(h1:1<=cs.length)(h60:cs.length<=60)(hc:dE cs):bad (cs.map ul)=none:=by
 refine nR (by rw[ce];exact⟨h1,h60⟩) λi y hy=>?_
 rw[im]at hy;obtain⟨z,hz,rfl⟩:=nb.mp hy;exact sM (hc z (cr hz))
def wZ {cs:List Int}(s:Sep O H):Sep (tys (cs.map ul)::O) H:=Sep.GY (λx hx=>by
 obtain⟨z,_,rfl⟩:=List.mem_map.mp hx;exact⟨"int",rfl⟩) s
def rZ {p:Addr}{cs:List Int}(ro:Ro K R)(hk:4<=k)(h1:1<=cs.length)(h60:cs.length<=60)(hc:dE cs)(s:Sep (pt p (wn (R.cad 24) dx [])::pt dx (.own p)::O) H)(h:ag (pt a (v6 (cs.map ul))) O Δ)
  (q:∀ H',Sep (ay R p cs (re cs.length "open")::O) H'->Q v4 H'):aa tab R k 74 [u8 p,u8 a] H Q E:=by
 have s2:=wZ (cs:=cs) (s.pull (.j2 h));refine mD (a:=a) (dx:=dx) (O:=Δ) ro hk (s2.sub ?_) (λ_ H' z=>q H' ?_) (λat' hb=>absurd hb (by rw[uH h1 h60 hc];exact λz=>nomatch z))
 .ac_nf
 .refine Sep.push (.t h) ?_;have e:re (cs.map ul).length (ut "open")=(re cs.length ("open":Str)).map ut:=by rw[ce,List.map_replicate]
  rw[e]at z;have z2:=fN (cs:=cs) ⟨by rw[length_replicate],h1,h60,hc⟩ z;exact z2.sub (by ac_nf)
def aK {T:Tab}{f:Nat}{vs vs':List V}(e:vs=vs')(h:aa T R k f vs' H Q E):aa T R k f vs H Q E:=e▸h
local macro_rules| `(tactic|walk_at "ag")=>`(tactic|first|refine aK (vs':=[_,_]) rfl ?_|refine aK (vs':=[_,_,_]) rfl ?_|refine aK (vs':=[_]) rfl ?_|refine aK (vs':=[_,_,_,_]) rfl ?_)
local macro_rules| `(tactic|walk_at "mt")=>`(tactic|first|((with_reducible refine' ae aX ?s ?p ?m ?f ?_);(case s=>with_reducible assumption);(case p=>symm);(case m=>exact rfl);(case f=>exact rfl))|((with_reducible refine' ae bA ?s ?p ?m ?f ?_);(case s=>with_reducible assumption);(case p=>symm);(case m=>exact rfl);(case f=>exact rfl)))
local macro_rules| `(tactic|walk_at "hq")=>`(tactic|((with_reducible (first|refine' E8 ?r ?k ?s ?p ?_|refine' Gi ?r ?k ?s ?p ?_|refine' D6 ?r ?k ?s ?p ?_|refine' Dj ?r ?k ?s ?p ?_|refine' Jg ?r ?k ?s ?p ?_|refine' GB ?r ?k ?s ?p ?_));(case r=>with_reducible assumption);(case k=>exact nofun);(case s=>with_reducible assumption);(case p=>symm)))
local macro_rules| `(tactic|walk_at "gq")=>`(tactic|((with_reducible (first|refine' GF ?r ?k ?s ?p ?i (λH hs=>?_)|refine' GH ?r ?k ?s ?p ?i (λH hs=>?_)|refine' Gn ?r ?k ?s ?p ?i (λH hs=>?_)|refine' Iy ?r ?k ?s ?p ?i (λH hs=>?_)));(case r=>with_reducible assumption);(case k=>exact nofun);(case s=>with_reducible assumption);(case p=>ac_rfl);(case i=>omega)))
local macro_rules| `(tactic|walk_at "ws")=>`(tactic|(walk_at "w";repeat(first|(walk_at "st";walk_at "w")|(walk_at "mt";walk_at "w")|(walk_at "ag";(walk_at "hq");walk_at "w")|(walk_at "ag";(walk_at "gq");walk_at "w"))))
local macro_rules| `(tactic|walk_at "sc")=>`(tactic|first|(refine aG (by decide+kernel) ?_;walk_at "go")|(refine ak (by decide+kernel) ?_;walk_at "go"))
inductive Out where
 |on (r:Int) (x:Bx) (cs:List Int)
 |no (d:Str) (c:Int)
section
variable {b a:Addr}{h t l w s m i j by':Int}{cs:List Int}{ws:List Str}
def Dv (ro:Ro K R)(hk:5<=k)(z:Sep O H)(r:aJ (ar R b ⟨h,t,l,w,s,m⟩) (ar R b ⟨h+i,t,l,w,s,m⟩) O Γ')(hi: -1000000000<=h+i/\h+i<=1000000000)(q:∀ H',Sep Γ' H'->Q v4 H'):aa tab R k 53 [u8 b,ut "here",ul i] H Q E:=by
 obtain⟨Δ,p1,p2⟩:=r.bp;delta lV;left;refine⟨rfl,?_⟩;left;refine ae aX z p1 rfl rfl ?_;left;refine⟨rfl,?_⟩;left;refine ae aX z p1 rfl rfl ?_;left;refine E8 ro nofun z p1 ?_;left;exact GF ro nofun z r hi q
def FL (ro:Ro K R)(hk:5<=k)(z:Sep O H)(r:aJ (ar R b ⟨h,t,l,w,s,m⟩) (ar R b ⟨h,t+i,l,w,s,m⟩) O Γ')(hi: -1000000000<=t+i/\t+i<=1000000000)(q:∀ H',Sep Γ' H'->Q v4 H'):aa tab R k 53 [u8 b,ut "there",ul i] H Q E:=by
 obtain⟨Δ,p1,p2⟩:=r.bp;delta lV;left;refine⟨rfl,?_⟩;left;refine ae aX z p1 rfl rfl ?_;left;refine⟨rfl,?_⟩;left;refine ae aX z p1 rfl rfl ?_;left;refine Gi ro nofun z p1 ?_;left;exact GH ro nofun z r hi q
def HU (ro:Ro K R)(hk:5<=k)(z:Sep O H)(r:aJ (ar R b ⟨h,t,l,w,s,m⟩) (ar R b ⟨h,t,l+i,w,s,m⟩) O Γ')(hi:0<=l+i/\l+i<=1000000000)(q:∀ H',Sep Γ' H'->Q v4 H'):aa tab R k 53 [u8 b,ut "left",ul i] H Q E:=by
 obtain⟨Δ,p1,p2⟩:=r.bp;delta lV;left;refine⟨rfl,?_⟩;left;refine ae aX z p1 rfl rfl ?_;left;refine⟨rfl,?_⟩;left;refine ae aX z p1 rfl rfl ?_;left;refine D6 ro nofun z p1 ?_;left;exact Gn ro nofun z r hi q
abbrev fin (l:Int):Int:=if l=0 then 1 else 0
def pd (ro:Ro K R)(hk:6<=k)(z:Sep O H)(r:aJ (ar R b ⟨h,t,l,w,s,m⟩) (ar R b ⟨h,t,l+ -i,w,s,m⟩) O Γ')(hi:0<=l+ -i/\l+ -i<=1000000000)(q:∀ H',Sep Γ' H'->Q (ul (fin (l+ -i))) H'):aa tab R k 55 [u8 b,ul i] H Q E:=by
 obtain⟨Δ,p1,p2⟩:=r.bp;delta iQ;right;refine HU ro nofun z r hi (λH1 z1=>?_);right;refine ae aX z1 p2 rfl rfl ?_;left;refine D6 ro nofun z1 p2 ?_;right;refine ax (λe=>?_) (λe=>?_)
 .right;have q:=q H1 z1;rw[fin,if_pos e]at q;exact q
 .right;have q:=q H1 z1;rw[fin,if_neg e]at q;exact q
def rp (hk:4<=k)(z:Sep O H)(r:aJ (ay R a cs ws) (ay R a (cs.set j.toNat (gt cs i)) ws) O Γ')(q0:ah ws "look" i=true->ah ws "put" j=true->∀ H',Sep Γ' H'->Q v4 H')
  (q1:ah ws "look" i=false->∀ e H',Sep (kq (R.cad 3) [("deed",ut "look"),("cell",ul i)] e false::O) H'->E e H')
  (q2:ah ws "look" i=true->ah ws "put" j=false->∀ e H',Sep (kq (R.cad 3) [("deed",ut "put"),("cell",ul j)] e false::O) H'->E e H'):aa tab R k 57 [u8 a,ul i,ul j] H Q E:=by
 obtain⟨Δ,p1,p2⟩:=r.bp;have ok:=cH z p1;delta v9;right;refine ae bA z p1 rfl rfl ?_;left;refine c6 nofun z p1 (λhm=>?_) q1;right;refine ae bA z p1 rfl rfl ?_;left;refine jK nofun z r (w8 ok.2.2.2) (λhp H1 z1=>?_) (q2 hm);right;exact q0 hm hp H1 z1
def lQ (hk:3<=k)(z:Sep O H)(p:ag (ay R a cs ws) O Δ)(q0:ah ws "put" i=true->Q v4 H)
  (q1:ah ws "put" i=false->∀ e H',Sep (kq (R.cad 3) [("deed",ut "put"),("cell",ul i)] e false::O) H'->E e H'):aa tab R k 56 [u8 a,ul i] H Q E:=by
 delta lp;right;refine ae bA z p rfl rfl ?_;left;refine Dp nofun z p ?_;right;refine bq (λhm=>?_) (λhm=>?_)
 .right;exact q0 hm
 .right;intro x hx;refine dM nofun (z.new hx) (λd H hs=>?_);right;exact dU hs (by ac_rfl) rfl (λH hs=>q1 hm x H (ij hs))
def qj {Γf:Int->Int->List az}(hk:4<=k)(z:Sep O H)(r:∀ v w:Int,∃ Γ1,aJ (ay R a cs ws) (ay R a (cs.set i.toNat v) ws) O Γ1/\aJ (ay R a (cs.set i.toNat v) ws) (ay R a ((cs.set i.toNat v).set j.toNat w) ws) Γ1 (Γf v w)) (q0:ah ws "look" i=true->ah ws "look" j=true->ah ws "put" i=true->ah ws "put" j=true->∀ H',Sep (Γf (gt cs j) (gt cs i)) H'->Q v4 H')
  (q1:ah ws "look" i=false->∀ e H',Sep (kq (R.cad 3) [("deed",ut "look"),("cell",ul i)] e false::O) H'->E e H')
  (q2:ah ws "look" i=true->ah ws "look" j=false->∀ e H',Sep (kq (R.cad 3) [("deed",ut "look"),("cell",ul j)] e false::O) H'->E e H')
  (q3:ah ws "look" i=true->ah ws "look" j=true->ah ws "put" i=false->∀ e H',Sep (kq (R.cad 3) [("deed",ut "put"),("cell",ul i)] e false::O) H'->E e H')
  (q4:ah ws "look" i=true->ah ws "look" j=true->ah ws "put" i=true->ah ws "put" j=false->∀ e H',Sep (kq (R.cad 3) [("deed",ut "put"),("cell",ul j)] e false::O) H'->E e H'):aa tab R k 58 [u8 a,ul i,ul j] H Q E:=by
 obtain⟨Γ1,r1,r2⟩:=r (gt cs j) (gt cs i);obtain⟨Δ,p1,p2⟩:=r1.bp;obtain⟨Δ2,p3,p4⟩:=r2.bp;have ok:=cH z p1;delta jy;right;refine ae bA z p1 rfl rfl ?_;left;refine c6 nofun z p1 (λh1=>?_) q1;right;refine ae bA z p1 rfl rfl ?_;left;refine c6 nofun z p1 (λh2=>?_) (q2 h1);right;refine lQ nofun z p1 (λh3=>?_) (q3 h1 h2);right;refine lQ nofun z p1 (λh4=>?_) (q4 h1 h2 h3);right;refine ae bA z p1 rfl rfl ?_;left;refine jK nofun z r1 (w8 ok.2.2.2) (λhp H1 z1=>?_) (λhp=>absurd (h3.symm.trans hp) (by decide));right;refine ae bA z1 p3 rfl rfl ?_;left;refine jK nofun z1 r2 (w8 ok.2.2.2) (λhp H2 z2=>?_) (λhp=>absurd (h4.symm.trans hp) (by decide));right;exact q0 h1 h2 h3 h4 H2 z2
abbrev qN (R:Rt)(b a:Addr)(x:Bx)(cs:List Int)(ws:List Str)(O:List az)(Q:VK)(E:XK):Out->Prop
 | .on r x' cs'=>∀ H',Sep (ar R b x'::ay R a cs' ws::O) H'->Q (ul r) H'
 | .no d c=>∀ e H',Sep (kq (R.cad 3) [("deed",ut d),("cell",ul c)] e false::ar R b x::ay R a cs ws::O) H'->E e H'
abbrev hm (cs:List Int)(ws:List Str)(i j:Int)(f:List Int->Out):Out:=
 if ah ws "look" i=true then(if ah ws "put" j=true then f (cs.set j.toNat (gt cs i)) else .no "put" j) else .no "look" i
abbrev fz (x:Bx)(cs:List Int)(ws:List Str):Out:=
 if x.l=0 then .on 1 x cs else if x.t<=x.h then hm cs ws x.h x.t λcs'=>.on (fin (x.l+ -1)) ⟨x.h+1,x.t+1,x.l+ -1,x.w,x.s,x.m⟩ cs'
 else hm cs ws (x.h+x.l-1) (x.t+x.l-1) λcs'=>.on (fin (x.l+ -1)) ⟨x.h,x.t,x.l+ -1,x.w,x.s,x.m⟩ cs'
abbrev xm (cs:List Int)(ws:List Str)(i j:Int)(f:List Int->Out):Out:=
 if ah ws "look" i=true then(if ah ws "look" j=true then(if ah ws "put" i=true then(if ah ws "put" j=true then f ((cs.set i.toNat (gt cs j)).set j.toNat (gt cs i)) else .no "put" j) else .no "put" i) else .no "look" j) else .no "look" i
abbrev jl (x:Bx)(cs:List Int)(ws:List Str):Out:=
 if x.l=0 then .on 1 x cs else if x.l=1 then .on 1 ⟨x.h,x.t,0,x.w,x.s,x.m⟩ cs else xm cs ws x.h (x.h+x.l-1) λcs'=>.on (fin (x.l+ -2)) ⟨x.h+1,x.t,x.l+ -2,x.w,x.s,x.m⟩ cs'
def vW (ro:Ro K R)(hk:7<=k)(z:Sep (ar R b x::ay R a cs ws::O) H)(q:qN R b a x cs ws O Q E (fz x cs ws)):aa tab R k 67 [v,u8 b,u8 a] H Q E:=by
 have ok:=lu z .e;have sk:=cH z .k1;obtain⟨h,t,l,w,s,m⟩:=x;obtain⟨⟨o1,o2⟩,⟨o3,o4⟩,⟨o5,o6⟩,o7⟩:=ok;dsimp only at o1 o2 o3 o4 o5 o6;obtain⟨s1,s2,s3,s4⟩:=sk;delta gj;walk_at "ws";refine ax (λe=>?_) (λe=>?_)
 .walk_at "ws";rw[fz,if_pos e]at q;exact q H z
 rw[fz,if_neg e]at q;walk_at "ws";refine aI (λe2=>?_) (λe2=>?_)
 .rw[if_pos e2]at q;walk_at "ws";refine rp nofun z .k1 (λh1 h2 H1 z1=>?_) (λh1=>?_) (λh1 h2=>?_)
  .have g1:=aj h1;have g2:=aj h2;rw[hm,if_pos h1,if_pos h2]at q;walk_at "ws";refine Dv ro nofun z1 .e nofun (λH2 z2=>?_);walk_at "ws";refine FL ro nofun z2 .e nofun (λH3 z3=>?_);walk_at "ws";exact pd ro nofun z3 .e nofun (λH4 z4=>q H4 z4)
  .rw[hm,if_neg (by rw[h1];decide)]at q;exact q
  .rw[hm,if_pos h1,if_neg (by rw[h2];decide)]at q;exact q
 .rw[if_neg e2]at q;walk_at "ws";refine rp nofun z .k1 (λh1 h2 H1 z1=>?_) (λh1=>?_) (λh1 h2=>?_)
  .rw[hm,if_pos h1,if_pos h2]at q;walk_at "ws";exact pd ro nofun z1 .e nofun (λH4 z4=>q H4 z4)
  .rw[hm,if_neg (by rw[h1];decide)]at q;exact q
  .rw[hm,if_pos h1,if_neg (by rw[h2];decide)]at q;exact q
def yX (ro:Ro K R)(hk:7<=k)(z:Sep (ar R b x::ay R a cs ws::O) H)(q:qN R b a x cs ws O Q E (jl x cs ws)):aa tab R k 69 [v,u8 b,u8 a] H Q E:=by
 have ok:=lu z .e;have sk:=cH z .k1;obtain⟨h,t,l,w,s,m⟩:=x;obtain⟨⟨o1,o2⟩,⟨o3,o4⟩,⟨o5,o6⟩,o7⟩:=ok;dsimp only at o1 o2 o3 o4 o5 o6;obtain⟨s1,s2,s3,s4⟩:=sk;delta ir;walk_at "ws";refine ax (λe=>?_) (λe=>?_)
 .walk_at "ws";rw[jl,if_pos e]at q;exact q H z
 rw[jl,if_neg e]at q;walk_at "ws";refine ax (λe2=>?_) (λe2=>?_)
 .rw[if_pos e2]at q;walk_at "ws";refine pd ro nofun z .e nofun (λH4 z4=>?_);subst e2;exact q H4 z4
 .rw[if_neg e2]at q;walk_at "ws";refine qj (Γf:=λv w'=>ar R b ⟨h,t,l,w,s,m⟩::ay R a ((cs.set h.toNat v).set (h+l-1).toNat w') ws::O) nofun z (λv w=>⟨_,.t .e,.t .e⟩) (λh1 h2 h3 h4 H1 z1=>?_) (λh1=>?_) (λh1 h2=>?_) (λh1 h2 h3=>?_) (λh1 h2 h3 h4=>?_)
  .have g1:=aj h1;rw[xm,if_pos h1,if_pos h2,if_pos h3,if_pos h4]at q;walk_at "ws";refine Dv ro nofun z1 .e nofun (λH2 z2=>?_);walk_at "ws";exact pd ro nofun z2 .e nofun (λH4 z4=>q H4 z4)
  .rw[xm,if_neg (by rw[h1];decide)]at q;exact q
  .rw[xm,if_pos h1,if_neg (by rw[h2];decide)]at q;exact q
  .rw[xm,if_pos h1,if_pos h2,if_neg (by rw[h3];decide)]at q;exact q
  .rw[xm,if_pos h1,if_pos h2,if_pos h3,if_neg (by rw[h4];decide)]at q;exact q
end
section
variable {b a:Addr}{h t l w s m i j:Int}{cs:List Int}{ws:List Str}
def Ci (ro:Ro K R)(hk:6<=k)(z:Sep O H)(r:aJ (ar R b ⟨h,t,l,w,s,m⟩) (ar R b ⟨h+w,t,l,w,s,m⟩) O Γ')(hi: -1000000000<=h+w/\h+w<=1000000000)(q:∀ H',Sep Γ' H'->Q v4 H'):aa tab R k 54 [u8 b,ut "here"] H Q E:=by
 obtain⟨Δ,p1,p2⟩:=r.bp;delta d5;left;refine⟨rfl,?_⟩;left;refine⟨rfl,?_⟩;left;refine ae aX z p1 rfl rfl ?_;left;refine Dj ro nofun z p1 ?_;left;exact Dv ro nofun z r hi q
def EF (ro:Ro K R)(hk:6<=k)(z:Sep O H)(r:aJ (ar R b ⟨h,t,l,w,s,m⟩) (ar R b ⟨h,t+w,l,w,s,m⟩) O Γ')(hi: -1000000000<=t+w/\t+w<=1000000000)(q:∀ H',Sep Γ' H'->Q v4 H'):aa tab R k 54 [u8 b,ut "there"] H Q E:=by
 obtain⟨Δ,p1,p2⟩:=r.bp;delta d5;left;refine⟨rfl,?_⟩;left;refine⟨rfl,?_⟩;left;refine ae aX z p1 rfl rfl ?_;left;refine Dj ro nofun z p1 ?_;left;exact FL ro nofun z r hi q
abbrev km (x:Bx)(cs:List Int)(ws:List Str):Out:=
 if x.l=0 then .on 1 x cs else hm cs ws x.h x.t λcs'=>.on (fin (x.l+ -1)) ⟨x.h+x.w,x.t+x.w,x.l+ -1,x.w,x.s,x.m⟩ cs'
abbrev jX (x:Bx)(cs:List Int)(ws:List Str):Out:=
 if x.l=0 then .on 1 x cs else if ah ws "put" x.t=true then .on (fin (x.l+ -1)) ⟨x.h,x.t+x.w,x.l+ -1,x.w,x.s,x.m⟩ (cs.set x.t.toNat x.s) else .no "put" x.t
abbrev jD (x:Bx)(cs:List Int)(ws:List Str):Out:=
 if x.l=0 then .on 1 ⟨x.h,x.t,x.l,x.w,x.s,0⟩ cs else if ah ws "look" x.h=true then
  (if gt cs x.h=x.s then .on 1 ⟨x.h,x.t,x.l,x.w,x.s,1⟩ cs else .on (fin (x.l+ -1)) ⟨x.h+x.w,x.t,x.l+ -1,x.w,x.s,0⟩ cs) else .no "look" x.h
abbrev fv (x:Bx)(cs:List Int)(ws:List Str):Out:=
 if x.l=0 then .on 1 ⟨x.h,x.t,x.l,x.w,x.s,1⟩ cs else if ah ws "look" x.h=true then(if ah ws "look" x.t=true then
  (if gt cs x.h=gt cs x.t then .on (fin (x.l+ -1)) ⟨x.h+x.w,x.t+x.w,x.l+ -1,x.w,x.s,1⟩ cs else .on 1 ⟨x.h,x.t,x.l,x.w,x.s,0⟩ cs) else .no "look" x.t) else .no "look" x.h
def nt {c:Bool}(h:c=false):¬ c=true:=by rw[h];decide
def Ao (ro:Ro K R)(hk:8<=k)(z:Sep (ar R b x::ay R a cs ws::O) H)(q:qN R b a x cs ws O Q E (km x cs ws)):aa tab R k 59 [v,u8 b,u8 a] H Q E:=by
 have ok:=lu z .e;have sk:=cH z .k1;obtain⟨h,t,l,w,s,m⟩:=x;obtain⟨⟨o1,o2⟩,⟨o3,o4⟩,⟨o5,o6⟩,o7,o8⟩:=ok;dsimp only at o1 o2 o3 o4 o5 o6 o7;obtain⟨s1,s2,s3,s4⟩:=sk;delta iA;walk_at "ws";refine ax (λe=>?_) (λe=>?_)
 .walk_at "ws";rw[km,if_pos e]at q;exact q H z
 rw[km,if_neg e]at q;walk_at "ws";refine rp nofun z .k1 (λh1 h2 H1 z1=>?_) (λh1=>?_) (λh1 h2=>?_)
 .have g1:=aj h1;have g2:=aj h2;rw[hm,if_pos h1,if_pos h2]at q;walk_at "ws";refine Ci ro nofun z1 .e nofun (λH2 z2=>?_);walk_at "ws";refine EF ro nofun z2 .e nofun (λH3 z3=>?_);walk_at "ws";exact pd ro nofun z3 .e nofun (λH4 z4=>q H4 z4)
 .rw[hm,if_neg (nt h1)]at q;exact q
 .rw[hm,if_pos h1,if_neg (nt h2)]at q;exact q
def Bb (ro:Ro K R)(hk:8<=k)(z:Sep (ar R b x::ay R a cs ws::O) H)(q:qN R b a x cs ws O Q E (jX x cs ws)):aa tab R k 61 [v,u8 b,u8 a] H Q E:=by
 have ok:=lu z .e;have sk:=cH z .k1;obtain⟨h,t,l,w,s,m⟩:=x;obtain⟨⟨o1,o2⟩,⟨o3,o4⟩,⟨o5,o6⟩,o7,o8,o9⟩:=ok;dsimp only at o1 o2 o3 o4 o5 o6 o7 o8;obtain⟨s1,s2,s3,s4⟩:=sk;delta iN;walk_at "ws";refine ax (λe=>?_) (λe=>?_)
 .walk_at "ws";rw[jX,if_pos e]at q;exact q H z
 rw[jX,if_neg e]at q;walk_at "ws";refine jK nofun z .k1 o8 (λh2 H1 z1=>?_) (λh2=>?_)
 .have g2:=aj h2;rw[if_pos h2]at q;walk_at "ws";refine EF ro nofun z1 .e nofun (λH3 z3=>?_);walk_at "ws";exact pd ro nofun z3 .e nofun (λH4 z4=>q H4 z4)
 .rw[if_neg (nt h2)]at q;exact q
def yQ (ro:Ro K R)(hk:8<=k)(z:Sep (ar R b x::ay R a cs ws::O) H)(q:qN R b a x cs ws O Q E (jD x cs ws)):aa tab R k 63 [v,u8 b,u8 a] H Q E:=by
 have ok:=lu z .e;have sk:=cH z .k1;obtain⟨h,t,l,w,s,m⟩:=x;obtain⟨⟨o1,o2⟩,⟨o3,o4⟩,⟨o5,o6⟩,o7,o8⟩:=ok;dsimp only at o1 o2 o3 o4 o5 o6 o7;obtain⟨s1,s2,s3,s4⟩:=sk;delta hW;walk_at "ws";refine ax (λe=>?_) (λe=>?_)
 .rw[jD,if_pos e]at q;walk_at "ws";rename_i H1 z1;exact q _ z1
 rw[jD,if_neg e]at q;walk_at "ws";refine c6 nofun z .k1 (λh1=>?_) (λh1=>?_)
 .have g1:=aj h1;rw[if_pos h1]at q;walk_at "ws";refine ax (λe=>?_) (λe=>?_)
  .rw[if_pos e]at q;walk_at "ws";rename_i H1 z1;exact q _ z1
  .rw[if_neg e]at q;walk_at "ws";rename_i H1 z1;refine Ci ro nofun z1 .e nofun (λH3 z3=>?_);walk_at "ws";exact pd ro nofun z3 .e nofun (λH4 z4=>q H4 z4)
 .rw[if_neg (nt h1)]at q;exact q
def wU (ro:Ro K R)(hk:8<=k)(z:Sep (ar R b x::ay R a cs ws::O) H)(q:qN R b a x cs ws O Q E (fv x cs ws)):aa tab R k 65 [v,u8 b,u8 a] H Q E:=by
 have ok:=lu z .e;have sk:=cH z .k1;obtain⟨h,t,l,w,s,m⟩:=x;obtain⟨⟨o1,o2⟩,⟨o3,o4⟩,⟨o5,o6⟩,o7,o8⟩:=ok;dsimp only at o1 o2 o3 o4 o5 o6 o7;obtain⟨s1,s2,s3,s4⟩:=sk;delta fQ;walk_at "ws";refine ax (λe=>?_) (λe=>?_)
 .rw[fv,if_pos e]at q;walk_at "ws";rename_i H1 z1;exact q _ z1
 rw[fv,if_neg e]at q;walk_at "ws";refine c6 nofun z .k1 (λh1=>?_) (λh1=>?_)
 .have g1:=aj h1;rw[if_pos h1]at q;walk_at "ws";refine c6 nofun z .k1 (λh2=>?_) (λh2=>?_)
  .have g2:=aj h2;rw[if_pos h2]at q;walk_at "ws";refine ax (λe=>?_) (λe=>?_)
   .rw[if_pos e]at q;walk_at "ws";rename_i H1 z1;refine Ci ro nofun z1 .e nofun (λH2 z2=>?_);walk_at "ws";refine EF ro nofun z2 .e nofun (λH3 z3=>?_);walk_at "ws";exact pd ro nofun z3 .e nofun (λH4 z4=>q H4 z4)
   .rw[if_neg e]at q;walk_at "ws";rename_i H1 z1;exact q _ z1
  .rw[if_neg (nt h2)]at q;exact q
 .rw[if_neg (nt h1)]at q;exact q
end
abbrev b2i (c:Bool):Int:=match c with
 |true=>1
 |false=>0
def jj {c:Bool}(q:Q (ul (b2i c)) H):kG G .int [.bl c] H Q:=by
 unfold kG;refine .inr ⟨c,rfl,?_⟩;cases c<;>exact q
section
variable {cs:List Int}{f g:Nat->Int}{i v:Int}
end
abbrev dd (R:Rt)(d:Addr)(c:Nat):az:=bx λdx:Addr=>[pt d (wn (R.cad c) dx []),pt dx (.own d)]
def HZ {c:Nat}(s:Sep (pt d (wn (R.cad c) dx [])::pt dx (.own d)::O) H):Sep (dd R d c::O) H:=mG dx s
def GR {c:Nat}:Ob R (dd R d c) d c []:=by
 rintro H D ⟨dx,D1,D2,_,_,_,⟨_,h⟩,_⟩;exact⟨dx,_,h,rfl⟩
def AN {l p:Addr}{cs:List Int}(h1:H l=some (v6 (cs.map ul)))(h2:H p=some (v6 (cs.map ul))):ff R.K H 2 (u8 l) (u8 p) true:=
 fY (n:=0) h1 h2 λx hx=>by
  obtain⟨z,_,rfl⟩:=List.mem_map.mp hx;exact⟨"int",rfl⟩
abbrev ao (d:Addr)(x:Bx):az:=pt d (.dK (tJ.zip (x.ls.map ul)))
section
variable {d:Addr}{h t l w s m i:Int}{P:Hp->Prop}
def IW (z:Sep O H)(p:ag (ao d ⟨h,t,l,w,s,m⟩) O Δ)(q:Q (ul h) H):oE K (u8 d) (ut "here") H Q:=lR (k:=.inr "here") (z.get p) rfl q
def IU (z:Sep O H)(p:ag (ao d ⟨h,t,l,w,s,m⟩) O Δ)(q:Q (ul t) H):oE K (u8 d) (ut "there") H Q:=lR (k:=.inr "there") (z.get p) rfl q
def Jn (z:Sep O H)(p:ag (ao d ⟨h,t,l,w,s,m⟩) O Δ)(q:Q (ul l) H):oE K (u8 d) (ut "left") H Q:=lR (k:=.inr "left") (z.get p) rfl q
def Iu (z:Sep O H)(p:ag (ao d ⟨h,t,l,w,s,m⟩) O Δ)(q:Q (ul w) H):oE K (u8 d) (ut "way") H Q:=lR (k:=.inr "way") (z.get p) rfl q
def HX (z:Sep O H)(p:ag (ao d ⟨h,t,l,w,s,m⟩) O Δ)(q:Q (ul s) H):oE K (u8 d) (ut "sign") H Q:=lR (k:=.inr "sign") (z.get p) rfl q
def Jj (z:Sep O H)(p:ag (ao d ⟨h,t,l,w,s,m⟩) O Δ)(q:Q (ul m) H):oE K (u8 d) (ut "met") H Q:=lR (k:=.inr "met") (z.get p) rfl q
def jU {y:Bx}{j:Nat}{nm:Str}(z:Sep O H)(r:aJ (ao d x) (ao d y) O Γ')(hj:nD[j]? =some nm)(hx:x.ls.set j i=y.ls)(q:∀ H',Sep Γ' H'->P H'):eD (u8 d) (ut nm) (ul i) H P:=by
 refine B7 (k:=.inr nm) z r (nw rfl) ?_ q;rw[<-hx];exact rO rfl hj
def HR (z:Sep O H)(r:aJ (ao d ⟨h,t,l,w,s,m⟩) (ao d ⟨i,t,l,w,s,m⟩) O Γ')(q:∀ H',Sep Γ' H'->P H'):eD (u8 d) (ut "here") (ul i) H P:=jU (j:=0) z r rfl rfl q
def HY (z:Sep O H)(r:aJ (ao d ⟨h,t,l,w,s,m⟩) (ao d ⟨h,i,l,w,s,m⟩) O Γ')(q:∀ H',Sep Γ' H'->P H'):eD (u8 d) (ut "there") (ul i) H P:=jU (j:=1) z r rfl rfl q
def Jl (z:Sep O H)(r:aJ (ao d ⟨h,t,l,w,s,m⟩) (ao d ⟨h,t,i,w,s,m⟩) O Γ')(q:∀ H',Sep Γ' H'->P H'):eD (u8 d) (ut "left") (ul i) H P:=jU (j:=2) z r rfl rfl q
def Gw (z:Sep O H)(r:aJ (ao d ⟨h,t,l,w,s,m⟩) (ao d ⟨h,t,l,i,s,m⟩) O Γ')(q:∀ H',Sep Γ' H'->P H'):eD (u8 d) (ut "way") (ul i) H P:=jU (j:=3) z r rfl rfl q
def Gb (z:Sep O H)(r:aJ (ao d ⟨h,t,l,w,s,m⟩) (ao d ⟨h,t,l,w,i,m⟩) O Γ')(q:∀ H',Sep Γ' H'->P H'):eD (u8 d) (ut "sign") (ul i) H P:=jU (j:=4) z r rfl rfl q
def Ja (z:Sep O H)(r:aJ (ao d ⟨h,t,l,w,s,m⟩) (ao d ⟨h,t,l,w,s,i⟩) O Γ')(q:∀ H',Sep Γ' H'->P H'):eD (u8 d) (ut "met") (ul i) H P:=jU (j:=5) z r rfl rfl q
def ve (z:Sep O H)(r:aJ (pt d (.dK [])) (ao d ⟨h,t,l,w,s,m⟩) O Γ')(q:∀ H',Sep Γ' H'->Q (u8 d) H'):rM ["here","there","left","way","sign","met"] d [ul h,ul t,ul l,ul w,ul s,ul m] H Q:=by
 obtain⟨Δ,p1,p2⟩:=r.bp;unfold rM;exact⟨z.get p1,q _ (z.put r rfl)⟩
end
local macro_rules| `(tactic|walk_at "sx")=>`(tactic|((with_reducible (first|refine' IW ?s ?p ?_|refine' IU ?s ?p ?_|refine' Jn ?s ?p ?_|refine' Iu ?s ?p ?_|refine' HX ?s ?p ?_|refine' Jj ?s ?p ?_));(case s=>with_reducible assumption);(case p=>symm)))
local macro_rules| `(tactic|walk_at "sy")=>`(tactic|((with_reducible (first|refine' HR ?s ?p (λH hs=>?_)|refine' HY ?s ?p (λH hs=>?_)|refine' Jl ?s ?p (λH hs=>?_)|refine' Gw ?s ?p (λH hs=>?_)|refine' Gb ?s ?p (λH hs=>?_)|refine' Ja ?s ?p (λH hs=>?_)));(case s=>with_reducible assumption);(case p=>ac_rfl)))
local macro_rules| `(tactic|walk_at "wd")=>`(tactic|(walk_at "w";repeat(first|(walk_at "sx";walk_at "w")|(walk_at "sy";walk_at "w")|(walk_at "st";walk_at "w")|(refine jj ?_;walk_at "w"))))
def x8 {d:Str}(hk:1<=k)(z:Sep O H)(p:ag (pt lv (v6 (ws.map ut))) O Δ)(q:Q (.bl (ah ws d i)) H):aa tab R k 90 [u8 lv,ut d,ul i] H Q E:=by
 have e0:H lv=some (v6 (ws.map ut)):=z.get p;have no:(i<0\/¬ i<ws.length)->ah ws d i=false:=λh=>by
  unfold ah;rcases h with h|h
  .rw[decide_eq_false (by omega:¬ 0<=i),Bool.false_and]
  .rw[decide_eq_false h,Bool.false_and,Bool.and_false]
 delta kh;left;refine aI (λh0=>?_) (λh0=>?_)
 .right;rw[no (.inl h0)]at q;exact q
 left;refine jd e0 ?_;left;rw[ce];refine aI (λh1=>?_) (λh1=>?_)
 .right;rw[no (.inr nofun)]at q;exact q
 have h2:i.toNat<ws.length:=by omega
 have e1:ws[i.toNat]? =some ws[i.toNat]:=le h2;generalize ws[i.toNat]=w at e1;have e2:(ws.map ut)[i.toNat]? =some (ut w):=by rw[im,e1];rfl
 have e3:ah ws d i=(if w="look" then d =="look" else w =="open"):=by
  unfold ah;rw[e1,decide_eq_true (by omega:0<=i),decide_eq_true (by omega:i<ws.length)]
  rfl
 left;refine ba e0 (a8 nofun e2) ?_;right;refine bq (λhw=>?_) (λhw=>?_)
 .have hw:w="open":=by simpa[cJ] using hw
  subst hw;rw[e3,if_neg (by decide+kernel)]at q;right;exact q
 .have hw:¬ w="open":=by simpa[cJ] using hw
  left;refine ba e0 (a8 nofun e2) ?_;right;refine bq (λhl=>?_) (λhl=>?_)
  .have hl:w="look":=by simpa[cJ] using hl
   rw[e3,if_pos hl]at q;right;exact q
  .have hl:¬ w="look":=by simpa[cJ] using hl
   have e4:(w ==("open":Str))=false:=by simpa using hw
   rw[e3,if_neg hl,e4]at q;right;exact q
inductive Wd where
 |copy|fill|seek|mtch|shift|turn
abbrev Wd.s:Wd->Str
 | .copy=>"copy"
 | .fill=>"fill"
 | .seek=>"seek"
 | .mtch=>"match"
 | .shift=>"shift"
 | .turn=>"turn"
abbrev Ap (h t l:Int):Wd->List Int
 | .copy=>[h]
 | .fill=>[]
 | .seek=>[h]
 | .mtch=>[h,t]
 | .shift=>if t<=h then[h+0] else[h+(l-1)]
 | .turn=>if l=1 then[] else[h,h+l-1]
abbrev zD (h t l:Int):Wd->List Int
 | .copy=>[t]
 | .fill=>[t]
 | .seek=>[]
 | .mtch=>[]
 | .shift=>if t<=h then[t+0] else[t+(l-1)]
 | .turn=>if l=1 then[] else[h,h+l-1]
abbrev lC (wd:Wd)(x:Bx):List Int:=if x.l=0 then[] else Ap x.h x.t x.l wd
abbrev tY (wd:Wd)(x:Bx):List Int:=if x.l=0 then[] else zD x.h x.t x.l wd
def JY {v0 v1:V}{c:Bool}:kx [v0,v1] (b2i c)=some (if c=true then v1 else v0):=by cases c<;>rfl
abbrev aP (ws:List Str)(d:Str):List Int->Option (Str×Int)
 | []=>none
 |c::r=>if ah ws d c=true then aP ws d r else some (d,c)
abbrev bh (ws:List Str)(ls ps:List Int):Option (Str×Int):=match aP ws "look" ls with
 |some r=>some r
 |none=>aP ws "put" ps
def jG {ws:List Str}{d:Str}:∀ {l:List Int},(∀ c ∈ l,ah ws d c=true)->aP ws d l=none
 | [],_=>rfl
 |c::r,h=>by
  unfold aP;rw[if_pos (h c lf)];exact jG λc hc=>h c (dl _ hc)
def mw {ws:List Str}{d:Str}{c:Int}:∀ {l:List Int}{j:Nat},(∀ i x,i<j->l[i]? =some x->ah ws d x=true)->l[j]? =some c->ah ws d c=false->aP ws d l=some (d,c)
 | [],_,_,h,_=>by simp at h
 |a::r,0,_,h,hc=>by
  have:a=c:=by simpa using h
  subst this;unfold aP;rw[if_neg (nt hc)]
 |a::r,j+1,hb,h,hc=>by
  unfold aP;rw[if_pos (hb 0 a (Nat.succ_pos _) rfl)];exact mw (λi x hi hx=>hb (i+1) x (Nat.succ_lt_succ hi) (by simpa using hx)) (by simpa using h) hc
abbrev bU:Wd->Bx->List Int->List Str->Out
 | .copy=>km
 | .fill=>jX
 | .seek=>jD
 | .mtch=>fv
 | .shift=>fz
 | .turn=>jl
abbrev iH (d p:Addr)(O:List az)(Q:VK):Out->Prop
 | .on r x' cs'=>∀ H',Sep (ao d x'::pt p (v6 (cs'.map ul))::O) H'->Q (ul r) H'
 | .no _ _=>True
def aB {d:Str}{r:List Int}(h:aP ws d (c::r)=none):ah ws d c=true/\aP ws d r=none:=by
 unfold aP at h
 by_cases e:ah ws d c=true
 .rw[if_pos e]at h;exact⟨e,h⟩
 .rw[if_neg e]at h;cases h
def fO {ls ps:List Int}(h:bh ws ls ps=none):aP ws "look" ls=none/\aP ws "put" ps=none:=by
 unfold bh at h
 split at h
 .cases h
 .rename_i e;exact⟨e,h⟩
def kX:b2i (cJ (ul l) (ul 0))=fin l:=by
 show b2i (l ==0)=_;unfold fin
 by_cases e:l=0
 .rw[if_pos e,e];rfl
 .rw[if_neg e,show(l ==0)=false by simpa using e];rfl
def cg {cs:List Int}{v:Int}:(cs.map ul).set n (ul v)=(cs.set n v).map ul:=by rw[List.map_set]
def xI:b2i (cJ (ul l) (ul 1))=fin (l+ -1):=by
 show b2i (l ==1)=_;unfold fin
 by_cases e:l=1
 .rw[if_pos nofun,e];rfl
 .rw[if_neg nofun,show(l ==1)=false by simpa using e];rfl
def yC:l-1=l+ -1:=by omega
def JI:l-2=l+ -2:=by omega
def BW {j:Int}(h:i=j):cJ (ul i) (ul j)=true:=by subst h;show(i ==i)=true;simp
def Bz {j:Int}(h:i≠j):cJ (ul i) (ul j)=false:=by show(i ==j)=false;simpa using h
variable {wd:Wd}
section
variable {d p:Addr}{h t l w s m:Int}{cs:List Int}{ws:List Str}
def oz (wd:Wd)(hw:wd=.seek\/wd=.mtch)(hk:1<=k)(hl:cs.length=ws.length)(hb:bh ws (lC wd x) (tY wd x)=none)(z:Sep (ao d x::pt p (v6 (cs.map ul))::O) H)
  (q:iH d p O Q (bU wd x cs ws)):aa tab R k 96 [ut wd.s,u8 d,u8 p] H Q E:=by
 obtain⟨h,t,l,w,s,m⟩:=x;obtain⟨b1,b2⟩:=fO hb;have f1:b2i (cJ (ut Wd.seek.s) (ut "match"))=0:=by decide+kernel
 have f2:b2i (cJ (ut Wd.mtch.s) (ut "match"))=1:=by decide+kernel
 have f3:b2i (cJ (ut Wd.seek.s) (ut "seek"))=1:=by decide+kernel
 have f4:b2i (cJ (ut Wd.mtch.s) (ut "seek"))=0:=by decide+kernel
 have f5:cJ (ut Wd.seek.s) (ut "seek")=true:=by decide+kernel
 have f6:cJ (ut Wd.mtch.s) (ut "seek")=false:=by decide+kernel
 delta eL;rcases hw with rfl|rfl
 .have q:iH d p O Q (jD ⟨h,t,l,w,s,m⟩ cs ws):=q;walk_at "wd";refine ax (λe=>?_) (λe=>?_)
  .rw[jD,if_pos e]at q;walk_at "wd";rename_i H1 z1;rw[f1]at z1;exact q _ z1
  rw[jD,if_neg e]at q;have b1:aP ws "look" [h]=none:=(congrArg _ (if_neg e)).symm.trans b1;obtain⟨m1,_⟩:=aB b1;obtain⟨g1,g2⟩:=aj m1;rw[if_pos m1]at q;walk_at "wd"
  repeat walk_at "sc"
  refine ba (by grind) (fX g1 nofun) ?_;walk_at "wd";rw[f5]
  by_cases e2:gt cs h=s
  .rw[if_pos e2]at q;rw[BW e2];walk_at "wd";rename_i H1 z1;rw[f3]at z1;exact q _ z1
  .rw[if_neg e2]at q;rw[Bz e2];walk_at "wd"
   repeat walk_at "sc"
   walk_at "wd";rename_i H1 z1 H2 z2 H3 z3;rw[f1,yC]at z3;rw[xI];exact q _ z3
 .have q:iH d p O Q (fv ⟨h,t,l,w,s,m⟩ cs ws):=q;walk_at "wd";refine ax (λe=>?_) (λe=>?_)
  .rw[fv,if_pos e]at q;walk_at "wd";rename_i H1 z1;rw[f2]at z1;exact q _ z1
  rw[fv,if_neg e]at q;have b1:aP ws "look" [h,t]=none:=(congrArg _ (if_neg e)).symm.trans b1;obtain⟨m1,b3⟩:=aB b1;obtain⟨m2,_⟩:=aB b3;obtain⟨g1,g2⟩:=aj m1;obtain⟨g3,g4⟩:=aj m2;rw[if_pos m1,if_pos m2]at q;walk_at "wd"
  repeat walk_at "sc"
  refine ba (by grind) (fX g3 nofun) ?_;walk_at "wd";refine ba (by grind) (fX g1 nofun) ?_;walk_at "wd";rw[f6]
  by_cases e2:gt cs h=gt cs t
  .rw[if_pos e2]at q;rw[BW e2];walk_at "wd"
   repeat walk_at "sc"
   walk_at "wd";rename_i H1 z1 H2 z2 H3 z3 H4 z4;rw[f2,yC]at z4;rw[xI];exact q _ z4
  .rw[if_neg e2]at q;rw[Bz e2];walk_at "wd";rename_i H1 z1;rw[f4]at z1;exact q _ z1
def Ai (wd:Wd)(hk:2<=k)(hx:0<=x.l)(hl:cs.length=ws.length)(hb:bh ws (lC wd x) (tY wd x)=none)(z:Sep (ao d x::pt p (v6 (cs.map ul))::O) H)
  (q:iH d p O Q (bU wd x cs ws)):aa tab R k 95 [ut wd.s,u8 d,u8 p] H Q E:=by
 delta gB;obtain⟨h,t,l,w,s,m⟩:=x;obtain⟨b1,b2⟩:=fO hb;dsimp only at hx;cases wd
 case seek=>
  walk_at "wd";rename_i p0 H0 z0;refine eG (aZ.of z0.at) rfl rfl ?_;left;refine aG (by decide+kernel) ?_;left;refine⟨rfl,?_⟩;left;exact oz .seek (.inl rfl) nofun hl hb z0.drop q
 case mtch=>
  walk_at "wd";rename_i p0 H0 z0;refine eG (aZ.of z0.at) rfl rfl ?_;left;refine aG (by decide+kernel) ?_;left;refine⟨rfl,?_⟩;left;exact oz .mtch (.inr rfl) nofun hl hb z0.drop q
 case copy=>
  have q:iH d p O Q (km ⟨h,t,l,w,s,m⟩ cs ws):=q;walk_at "wd";rename_i p0 H0 z0;refine eG (aZ.of z0.at) rfl rfl ?_;left;refine ak (by decide+kernel) ?_
  replace z0:=z0.drop
  walk_at "wd";refine ax (λe=>?_) (λe=>?_)
  .rw[km,if_pos e]at q;walk_at "wd";exact q _ z0
  have b1:aP ws "look" [h]=none:=(congrArg _ (if_neg e)).symm.trans b1;have b2:aP ws "put" [t]=none:=(congrArg _ (if_neg e)).symm.trans b2;have m1:=(aB b1).1;have m2:=(aB b2).1;obtain⟨g1,g2⟩:=aj m1;obtain⟨g3,g4⟩:=aj m2;rw[km,if_neg e,hm,if_pos m1,if_pos m2]at q;walk_at "wd";refine ba (by grind) (fX g1 nofun) ?_;walk_at "wd";refine dZ z0 .k1 (cF g3 (by rw[ce];omega)) cg (λH1 z1=>?_);walk_at "wd"
  repeat walk_at "sc"
  walk_at "wd";rename_i H2 z2 H3 z3 H4 z4;rw[yC]at z4;rw[kX,yC];exact q _ z4
 case fill=>
  have q:iH d p O Q (jX ⟨h,t,l,w,s,m⟩ cs ws):=q;walk_at "wd";rename_i p0 H0 z0;refine eG (aZ.of z0.at) rfl rfl ?_;left;refine ak (by decide+kernel) ?_
  replace z0:=z0.drop
  walk_at "wd";refine ax (λe=>?_) (λe=>?_)
  .rw[jX,if_pos e]at q;walk_at "wd";exact q _ z0
  have b2:aP ws "put" [t]=none:=(congrArg _ (if_neg e)).symm.trans b2;have m2:=(aB b2).1;obtain⟨g3,g4⟩:=aj m2;rw[jX,if_neg e,if_pos m2]at q;walk_at "wd";refine dZ z0 .k1 (cF g3 (by rw[ce];omega)) cg (λH1 z1=>?_);walk_at "wd"
  repeat walk_at "sc"
  walk_at "wd";rename_i H2 z2 H3 z3;rw[yC]at z3;rw[kX,yC];exact q _ z3
 case shift=>
  have q:iH d p O Q (fz ⟨h,t,l,w,s,m⟩ cs ws):=q;walk_at "wd";rename_i p0 H0 z0;refine eG (aZ.of z0.at) rfl rfl ?_;left;refine ak (by decide+kernel) ?_
  replace z0:=z0.drop
  walk_at "wd";refine ax (λe=>?_) (λe=>?_)
  .rw[fz,if_pos e]at q;walk_at "wd";exact q _ z0
  rw[fz,if_neg e]at q;have b1:aP ws "look" (Ap h t l .shift)=none:=(congrArg _ (if_neg e)).symm.trans b1;have b2:aP ws "put" (zD h t l .shift)=none:=(congrArg _ (if_neg e)).symm.trans b2;walk_at "wd"
  by_cases e2:t<=h
  .have b1:aP ws "look" [h+0]=none:=(congrArg _ (if_pos e2)).symm.trans b1;have b2:aP ws "put" [t+0]=none:=(congrArg _ (if_pos e2)).symm.trans b2;rw[Int.add_zero]at b1 b2;have m1:=(aB b1).1;have m2:=(aB b2).1;obtain⟨g1,g2⟩:=aj m1;obtain⟨g3,g4⟩:=aj m2;rw[if_pos e2,hm,if_pos m1,if_pos m2]at q;refine aG (decide_eq_true e2) ?_;walk_at "wd";refine ba (by grind) (fX g1 nofun) ?_;walk_at "wd";refine dZ z0 .k1 (cF g3 (by rw[ce];omega)) cg (λH1 z1=>?_);walk_at "wd"
   repeat walk_at "sc"
   walk_at "wd";rename_i H2 z2 H3 z3 H4 z4;rw[yC]at z4;rw[kX,yC];exact q _ z4
  .have b1:aP ws "look" [h+(l-1)]=none:=(congrArg _ (if_neg e2)).symm.trans b1;have b2:aP ws "put" [t+(l-1)]=none:=(congrArg _ (if_neg e2)).symm.trans b2;rw[show h+(l-1)=h+l-1 by omega]at b1;rw[show t+(l-1)=t+l-1 by omega]at b2;have m1:=(aB b1).1;have m2:=(aB b2).1;obtain⟨g1,g2⟩:=aj m1;obtain⟨g3,g4⟩:=aj m2;rw[if_neg e2,hm,if_pos m1,if_pos m2]at q;refine ak (decide_eq_false e2) ?_;walk_at "wd";refine ba (by grind) (fX g1 nofun) ?_;walk_at "wd";refine dZ z0 .k1 (cF g3 (by rw[ce];omega)) cg (λH1 z1=>?_);walk_at "wd"
   repeat walk_at "sc"
   walk_at "wd";rename_i H2 z2;rw[yC]at z2;rw[kX,yC];exact q _ z2
 case turn=>
  have q:iH d p O Q (jl ⟨h,t,l,w,s,m⟩ cs ws):=q;walk_at "wd";rename_i p0 H0 z0;refine eG (aZ.of z0.at) rfl rfl ?_;left;refine ak (by decide+kernel) ?_
  replace z0:=z0.drop
  walk_at "wd";refine ax (λe=>?_) (λe=>?_)
  .rw[jl,if_pos e]at q;walk_at "wd";exact q _ z0
  rw[jl,if_neg e]at q;have b1:aP ws "look" (Ap h t l .turn)=none:=(congrArg _ (if_neg e)).symm.trans b1;have b2:aP ws "put" (zD h t l .turn)=none:=(congrArg _ (if_neg e)).symm.trans b2;walk_at "wd"
  repeat walk_at "sc"
  refine aI (λe2=>?_) (λe2=>?_)
  .have b1:aP ws "look" [h,h+l-1]=none:=(congrArg _ (if_neg nofun)).symm.trans b1;have b2:aP ws "put" [h,h+l-1]=none:=(congrArg _ (if_neg nofun)).symm.trans b2;obtain⟨m1,b1⟩:=aB b1;obtain⟨m3,b2⟩:=aB b2;have m2:=(aB b1).1;have m4:=(aB b2).1;obtain⟨g1,g2⟩:=aj m1;obtain⟨g3,g4⟩:=aj m2;rw[if_neg (show ¬ l=1 by omega),xm,if_pos m1,if_pos m2,if_pos m3,if_pos m4]at q;walk_at "wd";refine ba (by grind) (fX g1 nofun) ?_;walk_at "wd";refine ba (by grind) (fX g3 nofun) ?_;walk_at "wd";refine dZ z0 .k1 (cF g1 (by rw[ce];omega)) cg (λH1 z1=>?_);walk_at "wd";refine dZ z1 .k1 (cF g3 (by rw[ce,length_set];omega)) cg (λH2 z2=>?_);walk_at "wd";rename_i H3 z3 H4 z4;rw[JI]at z4;rw[kX,JI];exact q _ z4
  .have e1:l=1:=by omega
   subst e1;rw[if_pos rfl]at q;walk_at "wd";rename_i H3 z3;rw[kX];exact q _ z3
def hU {ls ps:List Int}{v:Str×Int}{a:Out}(h:bh ws (c::ls) ps=some v)(k:bh ws ls ps=some v->a=.no v.1 v.2):(if ah ws "look" c=true then a else .no "look" c)=.no v.1 v.2:=by
 unfold bh at h k;rw[aP]at h
 by_cases e:ah ws "look" c=true
 .rw[if_pos e]at h⊢;exact k h
 .rw[if_neg e]at h⊢;cases h;rfl
def lP {ps:List Int}{v:Str×Int}{a:Out}(h:bh ws [] (c::ps)=some v)(k:bh ws [] ps=some v->a=.no v.1 v.2):(if ah ws "put" c=true then a else .no "put" c)=.no v.1 v.2:=by
 have h:aP ws "put" (c::ps)=some v:=h;unfold aP at h
 by_cases e:ah ws "put" c=true
 .rw[if_pos e]at h⊢;exact k h
 .rw[if_neg e]at h⊢;cases h;rfl
def iz {v:Str×Int}{a:Out}(h:bh ws [] []=some v):a=.no v.1 v.2:=nomatch (show none=some v from h)
def CG {dd:Str}(hx:0<=x.l)(hb:bh ws (lC wd x) (tY wd x)=some (dd,c)):bU wd x cs ws=.no dd c:=by
 obtain⟨h,t,l,w,s,m⟩:=x
 by_cases e:l=0
 .have e1:lC wd ⟨h,t,l,w,s,m⟩=[]:=if_pos e;have e2:tY wd ⟨h,t,l,w,s,m⟩=[]:=if_pos e;rw[e1,e2]at hb;cases hb
 have e1:lC wd ⟨h,t,l,w,s,m⟩=Ap h t l wd:=if_neg e;have e2:tY wd ⟨h,t,l,w,s,m⟩=zD h t l wd:=if_neg e;rw[e1,e2]at hb;cases wd
 .exact(if_neg e).trans (hU hb λhb=>lP hb iz)
 .exact(if_neg e).trans (lP hb iz)
 .exact(if_neg e).trans (hU hb iz)
 .exact(if_neg e).trans (hU hb λhb=>hU hb iz)
 .refine(if_neg e).trans ?_
  by_cases e2:t<=h
  .rw[show Ap h t l .shift=[h+0] from if_pos e2,show zD h t l .shift=[t+0] from if_pos e2,Int.add_zero,Int.add_zero]at hb;exact(if_pos e2).trans (hU hb λhb=>lP hb iz)
  .rw[show Ap h t l .shift=[h+(l-1)] from if_neg e2,show zD h t l .shift=[t+(l-1)] from if_neg e2,<-Int.add_sub_assoc,<-Int.add_sub_assoc]at hb;exact(if_neg e2).trans (hU hb λhb=>lP hb iz)
 .refine(if_neg e).trans ?_
  by_cases e2:l=1
  .rw[show Ap h t l .turn=[] from if_pos e2,show zD h t l .turn=[] from if_pos e2]at hb;exact iz hb
  .rw[show Ap h t l .turn=[h,h+l-1] from if_neg e2,show zD h t l .turn=[h,h+l-1] from if_neg e2]at hb;exact(if_neg e2).trans (hU hb λhb=>hU hb λhb=>lP hb λhb=>lP hb iz)
end
def dB {xs:List α}(h0:0<=i)(h1:i<xs.length):∃ v,kx xs i=some v/\v ∈ xs:=by
 have hl:i.toNat<xs.length:=by omega
 refine⟨xs[i.toNat],?_,getElem_mem hl⟩;have:=L2.ml (le hl)
 rwa [Int.toNat_of_nonneg h0]at this
abbrev c5 (ws:List Str):Prop:=∀ w ∈ ws,fk w=true
def pw {w:Str}(h:c5 ws)(hw:fk w=true):c5 (ws.set n w):=λx hx=>by
 rcases List.mem_or_eq_of_mem_set hx with hx|rfl
 .exact h x hx
 .exact hw
def tU (hk:2<=k)(hm:m<=1099511000000)(h1:1<=n)(h60:n<=60)(s:Sep (hand h m::O) H)
  (q:∀ p ws H',ws.length=n->c5 ws->Sep (pt p (v6 (ws.map ut))::hand h (m+20)::O) H'->Q (u8 p) H'):aa tab R k 86 [u8 h,ul n] H Q E:=by
 delta eW;walk_at "gd";rename_i l H1 hs1 b H2 hs2 l2 H3 hs3 r H4 r0 r1 hs4;rw[tf,show re n (ut "open")=(re n ("open":Str)).map ut by rw[List.map_replicate]]at hs4;obtain⟨v,hv,hmem⟩:=dB (xs:=[ul 0,ul 0,ul 1,ul 2,ul 4]) r0 (by simpa using r1);refine ba (by grind) hv ?_;obtain⟨M,rfl,M0,M1⟩:∃ M:Int,v=ul M/\0<=M/\M<=4:=by
  simp only[li,not_mem_nil,or_false]at hmem;rcases hmem with rfl|rfl|rfl|rfl|rfl
  .exact⟨_,rfl,by omega,by omega⟩
  .exact⟨_,rfl,by omega,by omega⟩
  .exact⟨_,rfl,by omega,by omega⟩
  .exact⟨_,rfl,by omega,by omega⟩
  .exact⟨_,rfl,by omega,by omega⟩
 have hs5:Sep (pt b (v6 ((re n ("open":Str)).map ut))::hand h (m+1)::O) H4:=hs4.sub (by ac_nf);clear hs1 hs2 hs3 hs4 hv hmem;walk_at "gd";refine d9 (n:=M.toNat) (λj U H=>∃ y3 y4 y5 y6,∃ ws:List Str,U=[some (u8 h),some (ul n),some (u8 b),y3,y4,y5,y6]/\ws.length=n/\c5 ws/\Sep (pt b (v6 (ws.map ut))::hand h (m+1+3*(j:Int))::O) H) ?_ ?_ ?_
 .refine⟨_,_,_,_,_,rfl,length_replicate ..,λw hw=>?_,(bD (n:=m+1+3*((0:Nat):Int)) (hs5.pull .k1) nofun).pull .k1⟩;rw[(List.mem_replicate.mp hw).2]
  decide
 .rintro j U H hj ⟨y3,y4,y5,y6,ws,rfl,hl,hw,hs⟩;clear hs5;walk_at "gd";rename_i l4 H5 hs5 x H6 x0 x1 hs6;obtain⟨v,hv,hmem⟩:=dB (xs:=[ut "look",ut "shut",ut "look",ut "open"]) x0 (by simpa using x1);refine ba (by grind) hv ?_;obtain⟨wd,rfl,hwd⟩:∃ wd,v=ut wd/\fk wd=true:=by
   simp only[li,not_mem_nil,or_false]at hmem;rcases hmem with rfl|rfl|rfl|rfl<;>exact⟨_,rfl,by decide⟩
  walk_at "gd";rename_i lo H7 lo0 lo1 hs7 d H8 d0 d1 hs8;have hs9:Sep (pt b (v6 (ws.map ut))::hand h (m+1+3*((j+1:Nat):Int))::O) H8:=(bD (n:=m+1+3*((j+1:Nat):Int)) (hs8.pull (A:=hand h (m+1+3*(j:Int)+1+1+1)) (by symm)) nofun).sub (by ac_nf);clear hs hs5 hs6 hs7 hs8 hv hmem;refine d9 (λi U H=>∃ y6,∃ ws:List Str,U=[some (u8 h),some (ul n),some (u8 b),some (ul (0+(j:Int))),some (ut wd),some (ul lo),y6]/\ws.length=n/\c5 ws/\Sep (pt b (v6 (ws.map ut))::hand h (m+1+3*((j+1:Nat):Int))::O) H) ?_ ?_ ?_
  .exact⟨_,ws,rfl,hl,hw,hs9⟩
  .rintro i U H hi ⟨y6,ws,rfl,hl,hw,hs⟩;right;refine dZ hs (by ac_rfl) (cF nofun (by rw[ce];omega)) rfl (λH hs=>?_);right;rw[<-List.map_set]at hs;exact⟨_,_,rfl,by rw[length_set];exact hl,pw hw hwd,hs⟩
  .rintro U H ⟨y6,ws,rfl,hl,hw,hs⟩;right;exact⟨_,_,_,_,ws,rfl,hl,hw,hs⟩
 .rintro U H ⟨y3,y4,y5,y6,ws,rfl,hl,hw,hs⟩;right;exact q b ws H hl hw ((bD (n:=m+20) (hs.pull .k1) nofun).pull .k1)
def wj (h0:0<=r)(h1:r<xs.length)(h:∀ v ∈ xs,P v):∃ v,kx xs r=some v/\P v:=by
 obtain⟨v,hv,hm⟩:=dB h0 h1;exact⟨v,hv,h v hm⟩
abbrev inR (lo hi:Int)(v:V):Prop:=∃ i,v=ul i/\lo<=i/\i<=hi
def inR.mk {lo hi:Int}(h0:lo<=i)(h1:i<=hi):inR lo hi (ul i):=⟨i,rfl,h0,h1⟩
def Kc {a b:V}(ha:P a)(hb:P b):∀ v ∈ [a,b],P v:=λv hv=>by
 simp only[li,not_mem_nil,or_false]at hv;rcases hv with rfl|rfl<;>assumption
def JT {a b c d:V}(ha:P a)(hb:P b)(hc:P c)(hd:P d):∀ v ∈ [a,b,c,d],P v:=λv hv=>by
 simp only[li,not_mem_nil,or_false]at hv;rcases hv with rfl|rfl|rfl|rfl<;>assumption
abbrev f9:Nat->kP->kP
 |0,b=>b
 |n+1,.cons _ r=>f9 n r
 |_+1,.nil=>.nil
def w9 {w:Str}{i:Nat}:jw w ws i 1=ws.set i w:=by
 show(jw w ws i 0).set (i+0) w=_
 rfl
abbrev half (ws:List Str)(n:Nat):List Str:=ws.take n++re (ws.length-n) ("open":Str)
def yj (h:n<=ws.length):(half ws n).length=ws.length:=by
 unfold half;rw[ci,db,length_replicate]
 omega
def oj {w:Str}(h:ws[n]? =some w):(half ws n).set n w=half ws (n+1):=by
 obtain⟨hn,e⟩:=sn.mp h;unfold half;have l1:(ws.take n).length=n:=by rw[db];omega
 rw[List.set_append,l1,if_neg nofun,Nat.sub_self,show ws.length-n=(ws.length-(n+1))+1 by omega,replicate_succ,List.set_cons_zero,take_succ,h];simp
def DC:half ws 0=re ws.length ("open":Str):=by unfold half;simp
def Ct:half ws ws.length=ws:=by unfold half;simp
def xW {cs:List Int}{j:Int}{w:Str}(ro:Ro K R)(hk:3<=k)(z:Sep O H)(r:aJ (ay R a cs ws) (ay R a cs (jw w ws i.toNat (j-i).toNat)) O Γ')(h0:0<=i)(h1:i<=j)(h2:j<=ws.length)(hw:fk w=true)(q:∀ H',Sep Γ' H'->Q v4 H'):aa tab R k 78 [u8 a,ul i,ul j,ut w] H Q E:=by
 obtain⟨Δ,p1,p2⟩:=r.bp;obtain⟨ok,z2⟩:=fZ (z.pull p1);have hwi:aT ws.length (ul i) (ul j)=true:=by simp[aT,h0,h1,h2]
 refine A3 (t1:="int") (t2:="int") (t3:="str") ro hk z2 (by rw[ce];exact ok.1) (by have:=ok.1;have:=ok.2.2.1;omega) rfl rfl rfl (λa' b' w' e1 e2 e3 _ _ H' z3=>?_) (λhb=>absurd hb ?_)
 .cases e1;cases e2;cases e3;refine q H' (Sep.push p2 (fN ⟨?_,ok.2⟩ z3));rw[jB];exact ok.1
 .rw[hwi];show ¬ (true&&fk w)=false;rw[hw]
  decide
abbrev Wd.cl:Wd->Nat
 | .copy=>18
 | .fill=>19
 | .seek=>20
 | .mtch=>21
 | .shift=>22
 | .turn=>23
def Co (wd:Wd)(hk:1<=k)(z:Sep O H)(q:∀ d H',Sep (dd R d wd.cl::O) H'->Q (u8 d) H'):aa tab R k 89 [ut wd.s] H Q E:=by
 delta iM;cases wd
 all_goals
  right
  repeat walk_at "sc"
  exact Ip z (λx dx H1 z1=>q x H1 (HZ z1))
def CO {t p:Addr}(h1:H t=some (wf (ns.map ul)))(h2:H p=some (wf (ns.map ul))):ff R.K H 2 (u8 t) (u8 p) true:=
 qH (n:=0) h1 h2 rfl λj x y e1 e2=>by
  rw[e1]at e2;cases e2;rw[im]at e1;obtain⟨i,_,rfl⟩:=nb.mp e1;exact dO (t:="int") rfl
def wQ:(tJ.zip (x.ls.map ul)).map (·.2)=x.ls.map ul:=rfl
def xU {tp:Bool}{kvs:List (Key×V)}(s:Sep O H)(e:H d=some (.dK kvs))(h:∀ p H',H p=none->Sep (pt p (Eu tp (kvs.map (·.2)))::O) H'->Q (u8 p) H'):pj tp (u8 d) H Q:=by unfold pj;exact⟨d,kvs,rfl,e,λp hp=>h p _ hp (s.new hp)⟩
def zI {l p:Addr}(h1:H l=some (v6 (ws.map ut)))(h2:H p=some (v6 (ws.map ut))):ff R.K H 2 (u8 l) (u8 p) true:=
 fY (n:=0) h1 h2 λx hx=>by
  obtain⟨z,_,rfl⟩:=List.mem_map.mp hx;exact⟨"str",rfl⟩
inductive Bn where
 |h
 |t
 |l
 |w
 |s
 |m
abbrev Bn.j:Bn->Nat
 | .h=>0
 | .t=>1
 | .l=>2
 | .w=>3
 | .s=>4
 | .m=>5
abbrev Bn.nm:Bn->Str
 | .h=>"here"
 | .t=>"there"
 | .l=>"left"
 | .w=>"way"
 | .s=>"sign"
 | .m=>"met"
def Bn.at (b:Bn):nD[b.j]? =some b.nm:=by cases b<;>rfl
abbrev Bx.g (x:Bx):Bn->Int
 | .h=>x.h
 | .t=>x.t
 | .l=>x.l
 | .w=>x.w
 | .s=>x.s
 | .m=>x.m
abbrev Bx.p (x:Bx)(i:Int):Bn->Bx
 | .h=>⟨i,x.t,x.l,x.w,x.s,x.m⟩
 | .t=>⟨x.h,i,x.l,x.w,x.s,x.m⟩
 | .l=>⟨x.h,x.t,i,x.w,x.s,x.m⟩
 | .w=>⟨x.h,x.t,x.l,i,x.s,x.m⟩
 | .s=>⟨x.h,x.t,x.l,x.w,i,x.m⟩
 | .m=>⟨x.h,x.t,x.l,x.w,x.s,i⟩
def Bx.gl (x:Bx)(b:Bn):x.ls[b.j]? =some (x.g b):=by cases b<;>rfl
def Bx.pl (x:Bx)(i:Int)(b:Bn):x.ls.set b.j i=(x.p i b).ls:=by cases b<;>rfl
abbrev aU (b:Bn)(i:Int):Bool:=bb b.j (ul i)
def Dg {b:Bn}(h:aU b i=true)(o:x.ok):(x.p i b).ok:=by
 obtain⟨o1,o2,o3,o4,o5,o6⟩:=o;cases b
 .have h:(decide (-1000000000<=i)&&decide (i<=1000000000))=true:=h;have h: -1000000000<=i/\i<=1000000000:=by simpa using h
  exact⟨h,o2,o3,o4,o5,o6⟩
 .have h:(decide (-1000000000<=i)&&decide (i<=1000000000))=true:=h;have h: -1000000000<=i/\i<=1000000000:=by simpa using h
  exact⟨o1,h,o3,o4,o5,o6⟩
 .have h:(decide (0<=i)&&decide (i<=1000000000))=true:=h;have h:0<=i/\i<=1000000000:=by simpa using h
  exact⟨o1,o2,h,o4,o5,o6⟩
 .have h:(i ==1||i == -1)=true:=h;have h:i=1\/i= -1:=by simpa using h
  exact⟨o1,o2,o3,h,o5,o6⟩
 .have h:(decide (0<=i)&&decide (i<=1000000000))=true:=h;have h:0<=i/\i<=1000000000:=by simpa using h
  exact⟨o1,o2,o3,o4,h,o6⟩
 .have h:(i ==0||i ==1)=true:=h;have h:i=0\/i=1:=by simpa using h
  exact⟨o1,o2,o3,o4,o5,h⟩
def Iw {b:Addr}{n:Bn}(ro:Ro K R)(hk:4<=k)(z:Sep (ar R b x::O) H)(q0:aU n i=true->∀ H',Sep (ar R b (x.p i n)::O) H'->Q v4 H')
  (q1:aU n i=false->∀ e H',Sep (kq (R.cad 4) [("box",ut n.nm),("number",ul i)] e false::ar R b x::O) H'->E e H'):aa tab R k 15 [u8 b,ut n.nm,ul i] H Q E:=by
 cases h:aU n i with
 |true=>exact pV ro hk z .e n.at h (x.pl i n) (Dg h) (q0 h)
 |false=>
  obtain⟨o,z2⟩:=di z;exact qw ro hk z2 n.at rfl h λe d H' z3=>q1 h e H' (ij (Sep.push .k2 (lz o (z3.pull .k2))))
def vX {b:Addr}{n:Bn}(ro:Ro K R)(hk:2<=k)(z:Sep O H)(p:ag (ar R b x) O Δ)(q:Q (ul (x.g n)) H):aa tab R k 14 [u8 b,ut n.nm] H Q E:=cX ro hk (di (z.pull p)).2 n.at (x.gl n) q
def kr {n:Bn}(z:Sep O H)(p:ag (ao d x) O Δ)(q:Q (ul (x.g n)) H):oE K (u8 d) (ut n.nm) H Q:=by
 refine lR (k:=.inr n.nm) (v:=ul (x.g n)) (z.get p) ?_ q;cases n<;>rfl
def zP {n:Bn}{P:Hp->Prop}(z:Sep O H)(r:aJ (ao d x) (ao d (x.p i n)) O Γ')(q:∀ H',Sep Γ' H'->P H'):eD (u8 d) (ut n.nm) (ul i) H P:=jU z r n.at (x.pl i n) q
inductive Sp where
 |set (b:Bn) (i:Int)
 |add (b:Bn) (i:Int)
 |take (b c:Bn)
 |read (b:Bn)
 |write (b:Bn)
abbrev Sp.w:Sp->Str
 | .set _ _=>"set"
 | .add _ _=>"add"
 | .take _ _=>"take"
 | .read _=>"read"
 | .write _=>"write"
abbrev Sp.b:Sp->Bn
 | .set b _=>b
 | .add b _=>b
 | .take b _=>b
 | .read b=>b
 | .write b=>b
abbrev Sp.tl:Sp->List V
 | .set b i=>[ut "set",ut b.nm,ul i]
 | .add b i=>[ut "add",ut b.nm,ul i]
 | .take b c=>[ut "take",ut b.nm,ut c.nm]
 | .read b=>[ut "read",ut b.nm]
 | .write b=>[ut "write",ut b.nm]
abbrev Sp.cl:Sp->Nat
 | .set _ _=>11
 | .add _ _=>12
 | .take _ _=>13
 | .read _=>14
 | .write _=>15
abbrev Sp.fs:Sp->List (Str×V)
 | .set b i=>[("box",ut b.nm),("number",ul i)]
 | .add b i=>[("box",ut b.nm),("number",ul i)]
 | .take b c=>[("box",ut b.nm),("other",ut c.nm)]
 | .read b=>[("box",ut b.nm)]
 | .write b=>[("box",ut b.nm)]
abbrev Sp.ok:Sp->Prop
 | .set _ i=>-1000000000<=i/\i<=1000000000
 | .add _ i=>-1000000000<=i/\i<=1000000000
 |_=>True
inductive qg where
 |on (x:Bx) (cs:List Int)
 |no (d:Str) (c:Int)
 |nf (b:Bn) (i:Int)
abbrev aV (x:Bx)(cs:List Int)(b:Bn)(i:Int):qg:=if aU b i=true then .on (x.p i b) cs else .nf b i
abbrev fq (x:Bx)(cs:List Int)(ws:List Str):Sp->qg
 | .set b i=>aV x cs b i
 | .add b i=>aV x cs b (x.g b+i)
 | .take b c=>aV x cs b (x.g c)
 | .read b=>if ah ws "look" x.h=true then aV x cs b (gt cs x.h) else .no "look" x.h
 | .write b=>if el (ul (x.g b))=true then(if ah ws "put" x.t=true then .on x (cs.set x.t.toNat (x.g b)) else .no "put" x.t) else .nf b (x.g b)
abbrev sd (R:Rt)(d:Addr)(sp:Sp):az:=bx λdx:Addr=>[pt d (wn (R.cad sp.cl) dx sp.fs),pt dx (.own d)]
def xR (s:Sep (pt d (wn (R.cad sp.cl) dx sp.fs)::pt dx (.own d)::O) H):Sep (sd R d sp::O) H:=mG dx s
def pk (s:Sep O H)(p:ag (sd R d sp) O Δ):∃ dx,H d=some (wn (R.cad sp.cl) dx sp.fs):=by
 obtain⟨dx,s⟩:=oB (s.pull p);exact⟨dx,Sep.at s⟩
abbrev dI (R:Rt)(b a:Addr)(x:Bx)(cs:List Int)(ws:List Str)(O:List az)(Q:VK)(E:XK):qg->Prop
 | .on x' cs'=>∀ H',Sep (ar R b x'::ay R a cs' ws::O) H'->Q (ul 1) H'
 | .no d c=>∀ e H',Sep (kq (R.cad 3) [("deed",ut d),("cell",ul c)] e false::ar R b x::ay R a cs ws::O) H'->E e H'
 | .nf n i=>∀ e H',Sep (kq (R.cad 4) [("box",ut n.nm),("number",ul i)] e false::ar R b x::ay R a cs ws::O) H'->E e H'
def je {b:Addr}{cs:List Int}{n:Bn}(ro:Ro K R)(hk:4<=k)(z:Sep (ar R b x::ay R a cs ws::O) H)(q:dI R b a x cs ws O (λ_=>Q v4) E (aV x cs n i)):aa tab R k 15 [u8 b,ut n.nm,ul i] H Q E:=by
 unfold aV at q;refine Iw ro hk z (λh H' z'=>?_) (λh e H' z'=>?_)
 .rw[if_pos h]at q;exact q H' z'
 .rw[if_neg (by rw[h];exact Bool.false_ne_true)]at q;exact q e H' z'
def dI.imp {b:Addr}{cs:List Int}{Q':VK}(h:∀ H',Q (ul 1) H'->Q' (ul 1) H'):∀ {o:qg},dI R b a x cs ws O Q E o->dI R b a x cs ws O Q' E o
 | .on _ _,q=>λH' z=>h _ (q H' z)
 | .no _ _,q=>q
 | .nf _ _,q=>q
def Gu:Ob R (sd R d sp) d sp.cl (sp.fs.map (·.1)):=by
 rintro H D ⟨dx,D1,D2,_,_,_,⟨_,h⟩,_⟩;exact⟨dx,_,h,rfl⟩
def yT (sp:Sp)(ro:Ro K R):∃ f,tab.me.lookup (sp.cl,("step":Str))=some f/\(∀ Ψ,dflt ⟨tab,R,Ψ,true⟩ f 3=[])/\∀ {k:Nat}{de b a:Addr}{x:Bx}{cs:List Int}{ws:List Str}{O:List az}{H:Hp}{Q:VK}{E:XK},5<=k->Sep (ar R b x::ay R a cs ws::sd R de sp::O) H->dI R b a x cs ws (sd R de sp::O) Q E (fq x cs ws sp)->aa tab R k f [u8 de,u8 b,u8 a] H Q E:=by
 cases sp with
 |set n i=>
  refine⟨21,rfl,λ_=>rfl,λ{k de b a x cs ws O H Q E} hk z q=>wc (d:=jI) nofun rfl rfl ?_⟩;obtain⟨dx,e⟩:=pk z (by symm);right;refine ae aX z (by symm) rfl rfl ?_;left;refine cu e rfl rfl rfl ?_;left;refine cu e rfl rfl rfl ?_;left;refine aK (vs':=[_,_,_]) rfl ?_;exact je ro nofun z (dI.imp (Q:=Q) (λH' h=>h) q)
 |add n i=>
  refine⟨24,rfl,λ_=>rfl,λ{k de b a x cs ws O H Q E} hk z q=>wc (d:=ki) nofun rfl rfl ?_⟩;obtain⟨dx,e⟩:=pk z (by symm);right;refine ae aX z (by symm) rfl rfl ?_;left;refine cu e rfl rfl rfl ?_;right;refine ae aX z (by symm) rfl rfl ?_;left;refine cu e rfl rfl rfl ?_;left;refine aK (vs':=[_,_]) rfl ?_;refine vX (n:=n) ro nofun z (by symm) ?_;left;refine cu e rfl rfl rfl ?_;right;refine aK (vs':=[_,_,_]) rfl ?_;exact je ro nofun z (dI.imp (Q:=Q) (λH' h=>h) q)
 |take n m=>
  refine⟨27,rfl,λ_=>rfl,λ{k de b a x cs ws O H Q E} hk z q=>wc (d:=ip) nofun rfl rfl ?_⟩;obtain⟨dx,e⟩:=pk z (by symm);right;refine ae aX z (by symm) rfl rfl ?_;left;refine cu e rfl rfl rfl ?_;right;refine ae aX z (by symm) rfl rfl ?_;left;refine cu e rfl rfl rfl ?_;left;refine aK (vs':=[_,_]) rfl ?_;refine vX (n:=m) ro nofun z (by symm) ?_;left;refine aK (vs':=[_,_,_]) rfl ?_;exact je ro nofun z (dI.imp (Q:=Q) (λH' h=>h) q)
 |read n=>
  refine⟨30,rfl,λ_=>rfl,λ{k de b a x cs ws O H Q E} hk z q=>wc (d:=iU) nofun rfl rfl ?_⟩;obtain⟨dx,e⟩:=pk z (by symm);right;refine ae aX z (by symm) rfl rfl ?_;left;refine cu e rfl rfl rfl ?_;right;refine ae bA z (by symm) rfl rfl ?_;right;refine ae aX z (by symm) rfl rfl ?_;left;refine aK (vs':=[_,_]) rfl ?_;refine vX (n:=.h) ro nofun z (by symm) ?_;left;refine aK (vs':=[_,_]) rfl ?_;have q:dI R b a x cs ws (sd R de (.read n)::O) Q E (if ah ws "look" x.h=true then aV x cs n (gt cs x.h) else .no "look" x.h):=q;refine c6 (i:=x.h) nofun z (by symm) (λh=>?_) (λh e H' z'=>?_)
  .rw[if_pos h]at q;left;refine aK (vs':=[_,_,_]) rfl ?_;exact je ro nofun z (dI.imp (Q:=Q) (λH' h=>h) q)
  .rw[if_neg (by rw[h];exact Bool.false_ne_true)]at q;exact q e H' z'
 |write n=>
  refine⟨33,rfl,λ_=>rfl,λ{k de b a x cs ws O H Q E} hk z q=>wc (d:=gh) nofun rfl rfl ?_⟩;obtain⟨dx,e⟩:=pk z (by symm);have q:dI R b a x cs ws (sd R de (.write n)::O) Q E (if el (ul (x.g n))=true then(if ah ws "put" x.t=true then .on x (cs.set x.t.toNat (x.g n)) else .no "put" x.t) else .nf n (x.g n)):=q;right;refine ae aX z (by symm) rfl rfl ?_;left;refine cu e rfl rfl rfl ?_;left;refine aK (vs':=[_,_]) rfl ?_;refine vX (n:=n) ro nofun z (by symm) ?_;right;refine bX (t:="int") ro nofun rfl ?_;cases hc:el (ul (x.g n)) with
  |false=>
   rw[if_neg (by rw[hc];exact Bool.false_ne_true)]at q;right;refine cu e rfl rfl rfl ?_;right;intro ex he;refine gd nofun (z.new he) (λd H3 hs3=>⟨rfl,?_⟩);exact dU (G:=⟨tab,R,aa tab R (k-1),true⟩) hs3 .e rfl (λH4 hs4=>q ex H4 (ij hs4))
  |true=>
   rw[if_pos hc]at q;right;refine ae bA z (by symm) rfl rfl ?_;right;refine ae aX z (by symm) rfl rfl ?_;left;refine aK (vs':=[_,_]) rfl ?_;refine vX (n:=.t) ro nofun z (by symm) ?_;left;refine aK (vs':=[_,_,_]) rfl ?_;have hc2:0<=x.g n/\x.g n<=1000000000:=by
    have hc3:(decide (0<=x.g n)&&decide (x.g n<=1000000000))=true:=hc;simpa using hc3
   refine jK (i:=x.t) nofun z (by ac_rfl) hc2 (λh H' z'=>?_) (λh e H' z'=>?_)
   .rw[if_pos h]at q;exact q H' z'
   .rw[if_neg (by rw[h];exact Bool.false_ne_true)]at q;exact q e H' z'
def bg {w:Str}{n:Bn}(ro:Ro K R)(hk:2<=k)(q:Q v4 H):aa tab R k 18 [ut w,ut n.nm] H Q E:=by
 delta iO;right;refine mj (t:="str") ro nofun rfl ?_;rw[qO n.at];right;exact q
def dA {w:Str}(ro:Ro K R)(hk:3<=k)(h0: -1000000000<=i)(h1:i<=1000000000)(q:Q v4 H):aa tab R k 19 [ut w,ul i] H Q E:=by
 delta d7;right;refine dC (t:="int") ro nofun rfl ?_;rw[show dX (ul i)=true by simp[dX,h0,h1]];right;exact q
def FC {x:Addr}{n:Bn}(ro:Ro K R)(hk:4<=k)(h0: -1000000000<=i)(h1:i<=1000000000)(z:Sep (pt x (wn (R.cad 11) dx [])::pt dx (.own x)::O) H)(q:∀ H',Sep (sd R x (.set n i)::O) H'->Q v4 H'):aa tab R k 20 [u8 x,ut n.nm,ul i] H Q E:=by
 delta dF;right;refine bg ro nofun ?_;right;refine dA ro nofun h0 h1 ?_;right;exact q _ (xR (by assumption))
def Gm {x:Addr}{n:Bn}(ro:Ro K R)(hk:4<=k)(h0: -1000000000<=i)(h1:i<=1000000000)(z:Sep (pt x (wn (R.cad 12) dx [])::pt dx (.own x)::O) H)(q:∀ H',Sep (sd R x (.add n i)::O) H'->Q v4 H'):aa tab R k 23 [u8 x,ut n.nm,ul i] H Q E:=by
 delta dD;right;refine bg ro nofun ?_;right;refine dA ro nofun h0 h1 ?_;right;exact q _ (xR (by assumption))
def Fh {x:Addr}{n m:Bn}(ro:Ro K R)(hk:4<=k)(z:Sep (pt x (wn (R.cad 13) dx [])::pt dx (.own x)::O) H)(q:∀ H',Sep (sd R x (.take n m)::O) H'->Q v4 H'):aa tab R k 26 [u8 x,ut n.nm,ut m.nm] H Q E:=by
 delta dg;right;refine bg ro nofun ?_;right;refine bg ro nofun ?_;right;exact q _ (xR (by assumption))
def Gq {x:Addr}{n:Bn}(ro:Ro K R)(hk:4<=k)(z:Sep (pt x (wn (R.cad 14) dx [])::pt dx (.own x)::O) H)(q:∀ H',Sep (sd R x (.read n)::O) H'->Q v4 H'):aa tab R k 29 [u8 x,ut n.nm] H Q E:=by
 delta c9;right;refine bg ro nofun ?_;right;exact q _ (xR (by assumption))
def GL {x:Addr}{n:Bn}(ro:Ro K R)(hk:4<=k)(z:Sep (pt x (wn (R.cad 15) dx [])::pt dx (.own x)::O) H)(q:∀ H',Sep (sd R x (.write n)::O) H'->Q v4 H'):aa tab R k 32 [u8 x,ut n.nm] H Q E:=by
 delta cW;right;refine bg ro nofun ?_;right;exact q _ (xR (by assumption))
abbrev ju:V->Bool
 | ul i=>decide (0<=i)&&decide (i<=24)
 |_=>false
abbrev EY:V->Bool
 | v4=>true
 | ul i=>i ==0||i ==1
 |_=>false
def ua (ro:Ro K R)(hk:2<=k)(ht:tyName v H=some t)(q:Q (.bl (ju v)) H):aa tab R k 48 [v] H Q E:=by
 delta lb;right;refine aM nofun ht ?_;cases dc ht
 case int i=>
  right;refine aI (λh0=>?_) (λh0=>?_)
  .left;simp only[ro.g_MOST_HOPPED];right;rw[show ju (ul i)=decide (i<=24) by simp[ju,h0]]at q;exact q
  .right;rw[show ju (ul i)=false by simp[ju,h0]]at q;exact q
 all_goals
  right;exact q
def A5 (hk:2<=k)(ht:tyName v H=some t)(q:Q (.bl (EY v)) H):aa tab R k 49 [v] H Q E:=by
 delta r9;right;refine gI ?_;cases dc ht
 case int i=>
  left;refine ak rfl ?_;right;refine aM (t:="int") nofun rfl ?_;right;refine ax (λh0=>?_) (λh0=>?_)
  .right;rw[show EY (ul i)=true by simp[EY,h0]]at q;exact q
  .right;rw[show EY (ul i)=(i ==1) by simp[EY,h0]]at q;exact q
 case non=>
  left;refine aG rfl ?_;exact q
 all_goals
  left;refine ak rfl ?_;right;refine aM nofun ht ?_;right;exact q
abbrev oV:Option Int->V
 |none=>v4
 |some i=>ul i
abbrev JD:Option Int->Prop
 |none=>True
 |some i=>i=0\/i=1
abbrev E5 (R:Rt)(d:Addr)(n:Int)(o:Option Int):az:=bx λdx:Addr=>[pt d (wn (R.cad 17) dx [("many",ul n),("on",oV o)]),pt dx (.own d)]
def Ij {n:Int}(s:Sep (pt d (wn (R.cad 17) dx [("many",ul n),("on",oV o)])::pt dx (.own d)::O) H):Sep (E5 R d n o::O) H:=mG dx s
def Gz {n:Int}(s:Sep O H)(p:ag (E5 R d n o) O Δ):∃ dx,H d=some (wn (R.cad 17) dx [("many",ul n),("on",oV o)]):=by
 obtain⟨dx,s⟩:=oB (s.pull p);exact⟨dx,Sep.at s⟩
def GP {n:Int}:Ob R (E5 R d n o) d 17 ["many","on"]:=by
 rintro H D ⟨dx,D1,D2,_,_,_,⟨_,h⟩,_⟩;exact⟨dx,_,h,rfl⟩
def GO {x:Addr}{n:Int}(ro:Ro K R)(hk:4<=k)(h0:0<=n)(h1:n<=24)(ho:JD o)(z:Sep (pt x (wn (R.cad 17) dx [])::pt dx (.own x)::O) H)(q:∀ H',Sep (E5 R x n o::O) H'->Q v4 H'):aa tab R k 50 [u8 x,ul n,oV o] H Q E:=by
 delta dN;right;refine ua (t:="int") ro nofun rfl ?_;rw[show ju (ul n)=true by simp[ju,h0,h1]];right;obtain⟨t,ht⟩:∃ t,tyName (oV o) H=some t:=by cases o<;>exact⟨_,rfl⟩
 refine A5 nofun ht ?_;rw[show EY (oV o)=true by cases o with|none=>rfl|some i=>rcases ho with rfl|rfl<;>rfl];right;exact q _ (Ij (by assumption))
abbrev C9 (n:Int)(o:Option Int)(m:Int):Int:=match o with
 |none=>1+n
 |some i=>if i=m then 1+n else 1
def AW {b:Addr}{n:Int}(ro:Ro K R)(hk:3<=k)(z:Sep O H)(p1:ag (E5 R d n o) O Δ){Δ':List az}(p2:ag (ar R b x) O Δ')(q:Q (ul (C9 n o x.m)) H):aa tab R k 51 [u8 d,u8 b,v] H Q E:=by
 delta jT;obtain⟨dx,e⟩:=Gz z p1;right;refine cu e rfl rfl rfl ?_;right;refine gI ?_;cases o with
 |none=>
  left;refine aG rfl ?_;right;refine cu e rfl rfl rfl ?_;right;exact q
 |some i=>
  left;refine ak rfl ?_;right;refine cu e rfl rfl rfl ?_;right;refine ae aX z p2 rfl rfl ?_;left;refine aK (vs':=[_,_]) rfl ?_;obtain⟨h,t,l,w,s,m⟩:=x;refine GB ro nofun z p2 ?_;right;have q:Q (ul (if i=m then 1+n else 1)) H:=q;refine ax (λh0=>?_) (λh0=>?_)
  .rw[if_pos h0]at q;right;refine cu e rfl rfl rfl ?_;right;exact q
  .rw[if_neg h0]at q;right;exact q
def step_any (wd:Wd)(ro:Ro K R):∃ f,tab.me.lookup (wd.cl,("step":Str))=some f/\(∀ Ψ,dflt ⟨tab,R,Ψ,true⟩ f 3=[])/\∀ {k:Nat}{v:V}{b a:Addr}{x:Bx}{cs:List Int}{ws:List Str}{O:List az}{H:Hp}{Q:VK}{E:XK},8<=k->Sep (ar R b x::ay R a cs ws::O) H->qN R b a x cs ws O Q E (bU wd x cs ws)->aa tab R k f [v,u8 b,u8 a] H Q E:=by
 cases wd
 .exact⟨59,rfl,λ_=>rfl,λhk z q=>Ao ro hk z q⟩
 .exact⟨61,rfl,λ_=>rfl,λhk z q=>Bb ro hk z q⟩
 .exact⟨63,rfl,λ_=>rfl,λhk z q=>yQ ro hk z q⟩
 .exact⟨65,rfl,λ_=>rfl,λhk z q=>wU ro hk z q⟩
 .exact⟨67,rfl,λ_=>rfl,λhk z q=>vW ro nofun z q⟩
 .exact⟨69,rfl,λ_=>rfl,λhk z q=>yX ro nofun z q⟩
def jf {n:Bn}(hk:1<=k)(q:Q (.bl (aU n i)) H):aa tab R k 92 [ut n.nm,ul i] H Q E:=by
 delta ik;cases n
 all_goals right
 all_goals repeat walk_at "sc"
 .rw[j5];refine aI (λh0=>?_) (λh0=>?_)
  .right;rw[j5];rw[show aU .h i=decide (i<=1000000000) by simp[aU,Bn.j,bb,dX,h0]]at q;exact q
  .right;rw[show aU .h i=false by simp[aU,Bn.j,bb,dX,h0]]at q;exact q
 .rw[j5];refine aI (λh0=>?_) (λh0=>?_)
  .right;rw[j5];rw[show aU .t i=decide (i<=1000000000) by simp[aU,Bn.j,bb,dX,h0]]at q;exact q
  .right;rw[show aU .t i=false by simp[aU,Bn.j,bb,dX,h0]]at q;exact q
 .refine aI (λh0=>?_) (λh0=>?_)
  .right;rw[j5];rw[show aU .l i=decide (i<=1000000000) by simp[aU,Bn.j,bb,el,h0]]at q;exact q
  .right;rw[show aU .l i=false by simp[aU,Bn.j,bb,el,h0]]at q;exact q
 .refine ax (λh0=>?_) (λh0=>?_)
  .right;rw[show aU .w i=true by simp[aU,Bn.j,bb,kL,h0]]at q;exact q
  .right;rw[show aU .w i=(i == -1) by simp[aU,Bn.j,bb,kL,h0]]at q;exact q
 .refine aI (λh0=>?_) (λh0=>?_)
  .right;rw[j5];rw[show aU .s i=decide (i<=1000000000) by simp[aU,Bn.j,bb,el,h0]]at q;exact q
  .right;rw[show aU .s i=false by simp[aU,Bn.j,bb,el,h0]]at q;exact q
 .refine ax (λh0=>?_) (λh0=>?_)
  .right;rw[show aU .m i=true by simp[aU,Bn.j,bb,kL,h0]]at q;exact q
  .right;rw[show aU .m i=(i ==1) by simp[aU,Bn.j,bb,kL,h0]]at q;exact q
inductive Rw where
 |lg (w:Wd)
 |sp (s:Sp)
 |hop (n:Int) (o:Option Int)
abbrev Rw.tl:Rw->List V
 | .lg w=>[ut w.s]
 | .sp s=>s.tl
 | .hop n o=>[ut "hop",ul n,oV o]
abbrev Rw.ok:Rw->Prop
 | .lg _=>True
 | .sp s=>s.ok
 | .hop n o=>(0<=n/\n<=24)/\JD o
abbrev Rw.cl:Rw->Nat
 | .lg w=>w.cl
 | .sp s=>s.cl
 | .hop _ _=>17
abbrev lG (R:Rt)(d:Addr):Rw->az
 | .lg w=>dd R d w.cl
 | .sp s=>sd R d s
 | .hop n o=>E5 R d n o
abbrev Rw.fs:Rw->List Str
 | .lg _=>[]
 | .sp s=>s.fs.map (·.1)
 | .hop _ _=>["many","on"]
def BV (r:Rw):Ob R (lG R d r) d r.cl r.fs:=by
 cases r with
 |lg w=>exact GR
 |sp s=>exact Gu
 |hop n o=>exact GP
def E6 {r:Rw}(z:Sep O H)(p:ag (lG R d r) O Δ):∃ dx fs,H d=some (wn (R.cad r.cl) dx fs):=by
 obtain⟨D,k,D1,D2,s1,s2,dj,h1,h2⟩:=z.pull p;obtain⟨dx,fs,e,_⟩:=BV r H D1 h1;exact⟨dx,fs,e⟩
inductive jn where
 |on (r:Int) (x:Bx) (cs:List Int)
 |no (d:Str) (c:Int)
 |nf (b:Bn) (i:Int)
abbrev ofM:Out->jn
 | .on r x cs=>.on r x cs
 | .no d c=>.no d c
abbrev iy:qg->jn
 | .on x cs=>.on 1 x cs
 | .no d c=>.no d c
 | .nf b i=>.nf b i
abbrev dr (x:Bx)(cs:List Int)(ws:List Str):Rw->jn
 | .lg w=>ofM (bU w x cs ws)
 | .sp s=>iy (fq x cs ws s)
 | .hop n o=>.on (C9 n o x.m) x cs
abbrev wW (R:Rt)(b a:Addr)(x:Bx)(cs:List Int)(ws:List Str)(O:List az)(Q:VK)(E:XK):jn->Prop
 | .on r x' cs'=>∀ H',Sep (ar R b x'::ay R a cs' ws::O) H'->Q (ul r) H'
 | .no d c=>∀ e H',Sep (kq (R.cad 3) [("deed",ut d),("cell",ul c)] e false::ar R b x::ay R a cs ws::O) H'->E e H'
 | .nf n i=>∀ e H',Sep (kq (R.cad 4) [("box",ut n.nm),("number",ul i)] e false::ar R b x::ay R a cs ws::O) H'->E e H'
def zN (r:Rw)(ro:Ro K R):∃ f,tab.me.lookup (r.cl,("step":Str))=some f/\(∀ Ψ,dflt ⟨tab,R,Ψ,true⟩ f 3=[])/\∀ {k:Nat}{de b a:Addr}{x:Bx}{cs:List Int}{ws:List Str}{O:List az}{H:Hp}{Q:VK}{E:XK},8<=k->Sep (ar R b x::ay R a cs ws::lG R de r::O) H->wW R b a x cs ws (lG R de r::O) Q E (dr x cs ws r)->aa tab R k f [u8 de,u8 b,u8 a] H Q E:=by
 cases r with
 |lg w=>
  obtain⟨f,hf,hd,hs⟩:=step_any w ro;refine⟨f,hf,hd,λ{k de b a x cs ws O H Q E} hk z q=>hs hk z ?_⟩;have q:wW R b a x cs ws (lG R de (.lg w)::O) Q E (ofM (bU w x cs ws)):=q
  revert q
  cases bU w x cs ws<;>exact λq=>q
 |sp s=>
  obtain⟨f,hf,hd,hs⟩:=yT s ro;refine⟨f,hf,hd,λ{k de b a x cs ws O H Q E} hk z q=>hs nofun z ?_⟩;have q:wW R b a x cs ws (lG R de (.sp s)::O) Q E (iy (fq x cs ws s)):=q
  revert q
  cases fq x cs ws s<;>exact λq=>q
 |hop n o=>
  refine⟨51,rfl,λ_=>rfl,λ{k de b a x cs ws O H Q E} hk z q=>?_⟩;exact AW ro nofun z .k2 .e (q H z)
def t7 {cs:List Int}(ro:Ro K R)(hk:5<=k)(z:Sep O H)(p:ag (ay R a cs ws) O Δ)(q:∀ c H',Sep (ay R c cs ws::O) H'->Q (u8 c) H'):aa tab R k 82 [u8 a] H Q E:=by
 delta dv;have ok:=cH z p;right;rename_i l H1 z1;intro c dx g1 g2 g3;refine rZ (cs:=[0]) ro nofun (by decide) (by decide) (λi hi=>by rw[List.mem_singleton.mp hi];decide) (g7 z1 g1 g2 g3) .e (λH2 z2=>⟨rfl,?_⟩);obtain⟨_,z3⟩:=fZ z2;obtain⟨dx1,c1,d1,z4⟩:=a6 z3;obtain⟨_,z5⟩:=fZ (z4.pull (.j2 (.j2 (.t p))));obtain⟨dx2,c2,d2,z6⟩:=a6 z5;clear z1 z2 z3 z4 z5;right;rename_i l3 H3 z7 H4 z8 l5 H5 z9 H6 z10;refine q c H6 ?_;have z11:Sep (pt c (wn (R.cad 24) dx1 [("contents",u8 l3),("permits",u8 l5)])::pt dx1 (.own c)::pt l3 (v6 (cs.map ul))::pt l5 (v6 (ws.map ut))::pt a (wn (R.cad 24) dx2 [("contents",u8 c2),("permits",u8 d2)])::pt dx2 (.own a)::pt c2 (v6 (cs.map ul))::pt d2 (v6 (ws.map ut))::Δ) H6:=z10.sub (by ac_nf);have z12:=fN ok (ck z11);have z13:Sep (pt a (wn (R.cad 24) dx2 [("contents",u8 c2),("permits",u8 d2)])::pt dx2 (.own a)::pt c2 (v6 (cs.map ul))::pt d2 (v6 (ws.map ut))::ay R c cs ws::Δ) H6:=z12.sub (by ac_nf);exact Sep.push (.t p) (fN ok (ck z13))
def tV {b:Addr}(ro:Ro K R)(hk:5<=k)(z:Sep O H)(p:ag (ar R b x) O Δ)(q:∀ c H',Sep (ar R c x::O) H'->Q (u8 c) H'):aa tab R k 17 [u8 b] H Q E:=by
 obtain⟨o,z2⟩:=di (z.pull p);refine tT ro hk z2 (λc H' z3=>q c H' ?_);have z4:=lz o z3;have z5:=lz o (z4.pull .k1);exact Sep.push (.t p) z5
abbrev bL (R:Rt)(m l s b:Addr)(at_:Int)(ds:List V):az:=bx λdx:Addr=>[pt m (wn (R.cad 16) dx [("deeds",u8 l),("store",u8 s),("boxes",u8 b),("at",ul at_)]),pt dx (.own m),pt l (v6 ds)]
def rm {m l s b:Addr}(z:Sep (bL R m l s b at_ ds::O) H):∃ dx,Sep (pt m (wn (R.cad 16) dx [("deeds",u8 l),("store",u8 s),("boxes",u8 b),("at",ul at_)])::pt dx (.own m)::pt l (v6 ds)::O) H:=oB z
def vq {m l s b:Addr}(z:Sep (pt m (wn (R.cad 16) dx [("deeds",u8 l),("store",u8 s),("boxes",u8 b),("at",ul at_)])::pt dx (.own m)::pt l (v6 ds)::O) H):Sep (bL R m l s b at_ ds::O) H:=mG dx z
def dw {m l s b:Addr}:Ob R (bL R m l s b at_ ds) m 16 ["deeds","store","boxes","at"]:=by
 rintro H D ⟨dx,D1,D2,_,_,_,⟨_,h⟩,_⟩;exact⟨dx,_,h,rfl⟩
abbrev Dc (R:Rt)(O:List az)(ds:List V):Prop:=∀ v ∈ ds,∃ a r Δ,v=u8 a/\ag (lG R a r) O Δ
def tF (r:Rw):tab.oc.contains r.cl=true/\tab.sub.lookup (r.cl,10)=some true:=by
 cases r with
 |lg w=>cases w<;>exact⟨rfl,rfl⟩
 |sp s=>cases s<;>exact⟨rfl,rfl⟩
 |hop n o=>exact⟨rfl,rfl⟩
def mK {l:Addr}(ro:Ro K R)(hk:1<=k)(h0:1<=ds.length)(h1:ds.length<=24)(z:Sep O H)(p:ag (pt l (v6 ds)) O Δ)(hd:Dc R O ds)(q:∀ H',Sep O H'->Q v4 H'):aa tab R k 35 [u8 l] H Q E:=by
 delta gz;left;refine cT (t:="list") (Dw (z.get p)) rfl ?_;right;refine jd (z.get p) ?_;right;refine aI (λh=>?_) (λh=>absurd nofun h);left;simp only[ro.g_MOST_ROWS];right;refine aI (λh=>?_) (λh=>absurd nofun h);right;refine G1 (z.get p) ?_;refine rQ (xs:=ds) (λj U H=>∃ u v,U=[some (u8 l),u,v]/\Sep O H) ?_ ?_ ?_ ?_
 .exact⟨none,none,rfl,z⟩
 .rintro j U H ⟨u,v,rfl,hs⟩;exact hs.get p
 .rintro j x T U H hx ⟨u,v,rfl,hs⟩ hT;obtain⟨a,r,Δ',rfl,hp⟩:=hd x (cr hx);have hs4:=hs.nv (xs:=[ul j,u8 a]) hT;obtain⟨dx,fs,e⟩:=E6 hs4 (.t hp);left;refine⟨T,_,rfl,.inl (aZ.of hs4.atT),rfl,?_⟩;generalize upd H T _=H4 at hs4 e⊢;right;refine FZ e (tF r).1 (b:=true) (tF r).2 ?_;right;exact⟨_,_,rfl,hs4.drop⟩
 .rintro U H ⟨u,v,rfl,hs⟩;exact q _ hs
def kN {n:Int}(hk:2<=k)(h0:0<=at_)(h1:at_<=n)(q:Q v4 H):aa tab R k 36 [ul at_,ul n] H Q E:=by
 delta eU;right;refine aM (t:="int") nofun rfl ?_;right;refine aI (λh=>?_) (λh=>absurd h0 h);right;refine aI (λh=>?_) (λh=>absurd h1 h);right;exact q
def k8 {m l s b:Addr}{cs:List Int}(ro:Ro K R)(hk:6<=k)(n0:1<=ds.length)(n1:ds.length<=24)(h0:0<=at_)(h1:at_<=ds.length){Δl Δs Δb:List az}(pl:ag (pt l (v6 ds)) O Δl)(ps:ag (ay R s cs ws) O Δs)(pb:ag (ar R b x) O Δb)(hd:Dc R O ds)
  (z:Sep (pt m (wn (R.cad 16) dx [])::pt dx (.own m)::O) H) (q:∀ l2 s2 b2 H',Sep (bL R m l2 s2 b2 at_ ds::ay R s2 cs ws::ar R b2 x::O) H'->Q v4 H'):aa tab R k 38 [u8 m,u8 l,u8 s,u8 b,ul at_] H Q E:=by
 delta cp;right;refine mK ro nofun n0 n1 z (.j2 pl) (λv hv=>by
  obtain⟨a,r,Δ',e,hp⟩:=hd v hv;exact⟨a,r,_,e,.t (.t hp)⟩) (λH1 z1=>?_)
 right;refine jd (z1.get (.j2 pl)) ?_;right;refine kN nofun h0 h1 ?_;right;refine tK z1 (z1.get (.j2 pl)) (λl2 H2 z2=>?_);right;rename_i H3 z3;refine ae bA z3 (.j2 (.t ps)) rfl rfl ?_;left;refine t7 ro nofun z3 (.j2 (.t ps)) (λs2 H4 z4=>?_);right;rename_i H5 z5;refine ae aX z5 (.j2 (.j2 pb)) rfl rfl ?_;left;refine tV ro nofun z5 (.j2 (.j2 pb)) (λb2 H6 z6=>?_);right;rename_i H7 z7 H8 z8;refine q l2 s2 b2 H8 (vq (dx:=dx) ?_);exact z8.sub (by ac_nf)
abbrev jn.bx (x:Bx):jn->Bx
 | .on _ x' _=>x'
 |_=>x
abbrev jn.cs (cs:List Int):jn->List Int
 | .on _ _ cs'=>cs'
 |_=>cs
abbrev JQ (t:Addr):jn->az
 | .on r _ _=>tu t [ul r,v4]
 | .no d c=>bx λte:Addr=>[tu t [v4,u8 te],tu te [ut d,ul c]]
 | .nf b _=>bx λte:Addr=>[tu t [v4,u8 te],tu te [ut "fit",ut b.nm]]
def yY {de b:Addr}{cs:List Int}(r:Rw)(ro:Ro K R)(hk:9<=k)(z:Sep (ar R b x::ay R a cs ws::lG R de r::O) H)
  (q:∀ t H',Sep (JQ t (dr x cs ws r)::ar R b ((dr x cs ws r).bx x)::ay R a ((dr x cs ws r).cs cs) ws::lG R de r::O) H'->Q (u8 t) H'):aa tab R k 37 [u8 de,u8 b,u8 a] H Q E:=by
 obtain⟨f,hf,hd,hst⟩:=zN r ro;delta sA;right;refine ae (BV r) z .k2 (by cases r with|lg w=>rfl|sp s=>cases s<;>rfl|hop n o=>rfl) hf ?_;left;refine aK (vs':=[u8 de,u8 b,u8 a]) (by show _::(_++dflt _ _ 3)=_;rw[hd];rfl) ?_;refine hst nofun z ?_
 revert q
 cases dr x cs ws r with
 |on n x' cs'=>
  intro q H1 z1;right;rename_i t H3 z3;exact q t H3 z3.toT
 |no d c=>
  intro q e H1 z1;obtain⟨dx,z2⟩:=BX z1;refine⟨3,_,_,true,z2.at,rfl,rfl,?_⟩;left;refine aG rfl ?_;right;rename_i te H3 z3 t H4 z4;have z5:=(z4.toT.pull .k1).toT;exact q t H4 (mG te (z5.sub (.cons .k1 (.cons .e (.drop (.drop .refl))))))
 |nf n i=>
  intro q e H1 z1;obtain⟨dx,z2⟩:=BX z1;refine⟨4,_,_,false,z2.at,rfl,rfl,?_⟩;left;refine ak rfl ?_;left;refine⟨4,_,_,true,z2.at,rfl,rfl,?_⟩;left;refine aG rfl ?_;right;rename_i te H3 z3 t H4 z4;have z5:=(z4.toT.pull .k1).toT;exact q t H4 (mG te (z5.sub (.cons .k1 (.cons .e (.drop (.drop .refl))))))
abbrev bT (R:Rt)(O:List az)(ds:List V)(rs:List Rw):Prop:=ds.length=rs.length/\∀ (i:Nat) (r:Rw),rs[i]? =some r->∃ a Δ,ds[i]? =some (u8 a)/\ag (lG R a r) O Δ
variable {rs:List Rw}
def bT.more (h:bT R O ds rs):bT R (A::O) ds rs:=⟨h.1,λi r e=>by
 obtain⟨a,Δ,e2,p⟩:=h.2 i r e;exact⟨a,_,e2,.t p⟩⟩
def bT.all (h:bT R O ds rs):Dc R O ds:=λv hv=>by
 obtain⟨i,hi⟩:=List.getElem?_of_mem hv;have hl:=(sn.mp hi).1;obtain⟨a,Δ,e2,p⟩:=h.2 i _ (le (by rw[<-h.1];exact hl));rw[hi]at e2;cases e2;exact⟨a,_,Δ,rfl,p⟩
structure J9 where
 w:Str
 at_:Int
 x:Bx
 cs:List Int
abbrev mS (rs:List Rw)(at_:Int)(x:Bx)(cs:List Int)(ws:List Str):J9:=match rs[at_.toNat]? with
 |none=>⟨"end",at_,x,cs⟩
 |some r=>match dr x cs ws r with
  | .on n x' cs'=>⟨"on",min (at_+n) rs.length,x',cs'⟩
  |_=>⟨"stop",at_,x,cs⟩
section
variable {m l s b:Addr}{at_:Int}{ds:List V}{rs:List Rw}{x:Bx}{cs:List Int}{ws:List Str}
def sh (hk:1<=k)(z:Sep O H)(p:ag (bL R m l s b at_ ds) O Δ)(q:Q (.bl (decide (at_=ds.length))) H):aa tab R k 39 [u8 m] H Q E:=by
 delta dq;obtain⟨dx,z1⟩:=rm (z.pull p);right;have e:cJ (ul at_) (ul (ds.length:Int))=decide (at_=(ds.length:Int)):=by
  show(at_ ==(ds.length:Int))=_
  by_cases h:at_=(ds.length:Int)
  .rw[decide_eq_true h,beq_iff_eq];exact h
  .rw[decide_eq_false h];simpa using h
 rw[e];exact q
def t9 (ro:Ro K R)(hk:10<=k)(h0:0<=at_)(h1:at_<=ds.length)(hd:bT R O ds rs)(z:Sep (bL R m l s b at_ ds::ay R s cs ws::ar R b x::O) H)
  (q:∀ H',Sep (bL R m l s b (mS rs at_ x cs ws).at_ ds::ay R s (mS rs at_ x cs ws).cs ws::ar R b (mS rs at_ x cs ws).x::O) H'->Q (ut (mS rs at_ x cs ws).w) H'):aa tab R k 40 [u8 m,u8 s] H Q E:=by
 delta cD;unfold mS at q;right;refine ae dw z .e rfl rfl ?_;left;refine sh nofun z .e ?_
 by_cases he:at_=ds.length
 .rw[decide_eq_true he];right;rw[List.getElem?_eq_none (by have:=hd.1;omega)]at q;exact q H z
 .rw[decide_eq_false he];have hlt:at_.toNat<rs.length:=by have:=hd.1;omega
  have er:rs[at_.toNat]? =some rs[at_.toNat]:=le hlt;generalize rs[at_.toNat]=r at er;obtain⟨de,Δ,e2,p⟩:=hd.2 _ _ er;rw[er]at q;dsimp only at q;obtain⟨dx,z1⟩:=rm z;right;refine ba (i:=at_) (by grind) (a8 h0 e2) ?_;right;have z2:Sep (ar R b x::ay R s cs ws::lG R de r::pt m (wn (R.cad 16) dx [("deeds",u8 l),("store",u8 s),("boxes",u8 b),("at",ul at_)])::pt dx (.own m)::pt l (v6 ds)::Δ) H:=z1.sub (.cons (.t .k3) (.cons .k3 (.cons (.j2 (.t p)) .refl)));refine yY r ro nofun z2 (λt H2 z3=>?_);clear z z1 z2
  revert q z3
  cases dr x cs ws r with
  |on n x' cs'=>
   intro q z3;have z3:Sep (tu t [ul n,v4]::ar R b x'::ay R s cs' ws::lG R de r::pt m (wn (R.cad 16) dx [("deeds",u8 l),("store",u8 s),("boxes",u8 b),("at",ul at_)])::pt dx (.own m)::pt l (v6 ds)::Δ) H2:=z3;right;refine gI ?_;left;refine ak rfl ?_;right;rename_i H4 z4;rw[hd.1]at z4;refine q H4 (vq (dx:=dx) ?_);exact(z4.sub (Γ':=lG R de r::pt m _::pt dx (.own m)::pt l (v6 ds)::ay R s cs' ws::ar R b x'::Δ) (by ac_nf)).push (.j2 (.j2 (.t p)))
  |no d c=>
   intro q z3;obtain⟨te,z4⟩:=oB z3;have z4:Sep (tu t [v4,u8 te]::tu te [ut d,ul c]::ar R b x::ay R s cs ws::lG R de r::pt m (wn (R.cad 16) dx [("deeds",u8 l),("store",u8 s),("boxes",u8 b),("at",ul at_)])::pt dx (.own m)::pt l (v6 ds)::Δ) H2:=z4;right;refine gI ?_;left;refine aG rfl ?_;refine q H2 (vq (dx:=dx) ?_);exact(z4.sub (Γ':=lG R de r::pt m _::pt dx (.own m)::pt l (v6 ds)::ay R s cs ws::ar R b x::Δ) (by ac_nf)).push (.j2 (.j2 (.t p)))
  |nf n i=>
   intro q z3;obtain⟨te,z4⟩:=oB z3;have z4:Sep (tu t [v4,u8 te]::tu te [ut "fit",ut n.nm]::ar R b x::ay R s cs ws::lG R de r::pt m (wn (R.cad 16) dx [("deeds",u8 l),("store",u8 s),("boxes",u8 b),("at",ul at_)])::pt dx (.own m)::pt l (v6 ds)::Δ) H2:=z4;right;refine gI ?_;left;refine aG rfl ?_;refine q H2 (vq (dx:=dx) ?_);exact(z4.sub (Γ':=lG R de r::pt m _::pt dx (.own m)::pt l (v6 ds)::ay R s cs ws::ar R b x::Δ) (by ac_nf)).push (.j2 (.j2 (.t p)))
def A7 (ro:Ro K R)(hk:11<=k)(h0:0<=at_)(h1:at_<=ds.length)(hd:bT R O ds rs)(z:Sep (bL R m l s b at_ ds::ay R s cs ws::ar R b x::O) H)
  (q:∀ H',Sep (bL R m l s b (mS rs at_ x cs ws).at_ ds::ay R s (mS rs at_ x cs ws).cs ws::ar R b (mS rs at_ x cs ws).x::O) H'->Q (ut (mS rs at_ x cs ws).w) H'):aa tab R k 41 [u8 m] H Q E:=by
 delta dz;obtain⟨dx,z1⟩:=rm z;right;refine ae dw z .e rfl rfl ?_;right;refine aK (vs':=[_,_]) rfl ?_;exact t9 ro nofun h0 h1 hd z q
def vz (ro:Ro K R)(hk:2<=k)(z:Sep (bL R m l s b at_ ds::ay R s cs ws::ar R b x::O) H)
  (q:∀ t t1 l1 H',Sep (pt t (wf [ul at_,u8 t1,u8 l1])::pt l1 (v6 (cs.map ul))::tu t1 (x.ls.map ul)::bL R m l s b at_ ds::ay R s cs ws::ar R b x::O) H'->Q (u8 t) H'):aa tab R k 43 [u8 m] H Q E:=by
 delta dh;obtain⟨dx,z1⟩:=rm z;right;refine ae aX z .k2 rfl rfl ?_;left;refine Aq ro nofun z .k2 (λt1 H1 z2=>?_);obtain⟨dx,z3⟩:=rm (z2.pull .k1);right;refine ae bA z2 .k2 rfl rfl ?_;left;refine zB nofun z2 .k2 (λl1 H2 z4=>?_);right;rename_i t H3 z5;exact q t t1 l1 H3 z5
def uh (hk:2<=k)(z:Sep (bL R m l s b at_ ds::ay R s cs ws::O) H)
  (q:∀ l1 H',Sep (pt l1 (v6 (ws.map ut))::bL R m l s b at_ ds::ay R s cs ws::O) H'->Q (u8 l1) H'):aa tab R k 44 [u8 m] H Q E:=by
 delta cU;obtain⟨dx,z1⟩:=rm z;right;refine ae bA z .k1 rfl rfl ?_;left;exact tW nofun z .k1 q
end
abbrev yD (x:Bx):Rw->List Int
 | .lg w=>lC w x
 | .sp (.read _)=>[x.h]
 |_=>[]
abbrev yH (x:Bx):Rw->List Int
 | .lg w=>tY w x
 | .sp (.write _)=>[x.t]
 |_=>[]
def gp {sp:Addr}(r:Rw)(hk:1<=k)(z:Sep (tu sp r.tl::ao d x::O) H)
  (q:∀ t l1 l2 H',Sep (tu t [u8 l1,u8 l2]::pt l1 (v6 ((yD x r).map ul))::pt l2 (v6 ((yH x r).map ul))::tu sp r.tl::ao d x::O) H'->Q (u8 t) H'):aa tab R k 91 [u8 sp,u8 d] H Q E:=by
 obtain⟨h,t,l,w,s,m⟩:=x;delta gm;have fi:∀ (L P:List Int){p l1 l2:Addr}{H3:Hp},yD ⟨h,t,l,w,s,m⟩ r=L->yH ⟨h,t,l,w,s,m⟩ r=P->Sep (pt p (wf [u8 l1,u8 l2])::pt l2 (v6 (P.map ul))::pt l1 (v6 (L.map ul))::tu sp r.tl::ao d ⟨h,t,l,w,s,m⟩::O) H3->Q (u8 p) H3:=by
  intro L P p l1 l2 H3 e1 e2 z3;refine q p l1 l2 H3 ?_;rw[e1,e2];have z4:=z3.toT;walk_at "sp"
 clear q;cases r with
 |lg wd=>
  have L0:l≠0->yD ⟨h,t,l,w,s,m⟩ (.lg wd)=Ap h t l wd:=λe=>if_neg e
  have P0:l≠0->yH ⟨h,t,l,w,s,m⟩ (.lg wd)=zD h t l wd:=λe=>if_neg e
  have L1:l=0->yD ⟨h,t,l,w,s,m⟩ (.lg wd)=[]:=λe=>if_pos e
  have P1:l=0->yH ⟨h,t,l,w,s,m⟩ (.lg wd)=[]:=λe=>if_pos e
  cases wd
  case turn=>
   walk_at "wd"
   repeat walk_at "sc"
   refine ax (λe=>?_) (λe=>?_)
   .walk_at "wd";rename_i l1 H1 z1 l2 H2 z2 p H3 z3;exact fi [] [] (L1 e) (P1 e) z3
   walk_at "wd"
   repeat walk_at "sc"
   refine ax (λe2=>?_) (λe2=>?_)
   .walk_at "wd";rename_i l1 H1 z1 l2 H2 z2 p H3 z3;exact fi [] [] ((L0 e).trans (if_pos e2)) ((P0 e).trans (if_pos e2)) z3
   .walk_at "wd"
    repeat walk_at "sc"
    rename_i l1 H1 z1 l2 H2 z2 p H3 z3;exact fi [h,h+l-1] [h,h+l-1] ((L0 e).trans (if_neg e2)) ((P0 e).trans (if_neg e2)) z3
  case shift=>
   walk_at "wd"
   repeat walk_at "sc"
   refine ax (λe=>?_) (λe=>?_)
   .walk_at "wd";rename_i l1 H1 z1 l2 H2 z2 p H3 z3;exact fi [] [] (L1 e) (P1 e) z3
   walk_at "wd"
   repeat walk_at "sc"
   walk_at "wd";dsimp only;refine ba (by grind) JY ?_
   by_cases e2:t<=h
   .rw[if_pos (decide_eq_true e2)];walk_at "wd";rename_i l1 H1 z1 l2 H2 z2 p H3 z3;have z4:Sep (pt p (wf [u8 l1,u8 l2])::pt l2 (v6 [ul (t+0)])::pt l1 (v6 [ul (h+0)])::tu sp (Rw.tl (.lg .shift))::ao d ⟨h,t,l,w,s,m⟩::O) H3:=by walk_at "sp"
    exact fi [h+0] [t+0] ((L0 e).trans (if_pos e2)) ((P0 e).trans (if_pos e2)) z4
   .rw[if_neg (by simpa using e2)];walk_at "wd";rename_i l1 H1 z1 l2 H2 z2 p H3 z3;have z4:Sep (pt p (wf [u8 l1,u8 l2])::pt l2 (v6 [ul (t+(l-1))])::pt l1 (v6 [ul (h+(l-1))])::tu sp (Rw.tl (.lg .shift))::ao d ⟨h,t,l,w,s,m⟩::O) H3:=by walk_at "sp"
    exact fi [h+(l-1)] [t+(l-1)] ((L0 e).trans (if_neg e2)) ((P0 e).trans (if_neg e2)) z4
  all_goals
   walk_at "wd"
   repeat walk_at "sc"
   refine ax (λe=>?_) (λe=>?_)
   .walk_at "wd";rename_i l1 H1 z1 l2 H2 z2 p H3 z3;exact fi [] [] (L1 e) (P1 e) z3
   walk_at "wd"
   repeat walk_at "sc"
   rename_i l1 H1 z1 l2 H2 z2 p H3 z3;exact fi _ _ (L0 e) (P0 e) z3
 |sp s'=>
  cases s'
  case read|write=>
   walk_at "wd"
   repeat walk_at "sc"
   rename_i l1 H1 z1 l2 H2 z2 p H3 z3;exact fi _ _ rfl rfl z3
  all_goals
   walk_at "wd"
   repeat walk_at "sc"
   refine ax (λe=>?_) (λe=>?_)
   .walk_at "wd";rename_i l1 H1 z1 l2 H2 z2 p H3 z3;exact fi [] [] rfl rfl z3
   walk_at "wd"
   repeat walk_at "sc"
   rename_i l1 H1 z1 l2 H2 z2 p H3 z3;exact fi [] [] rfl rfl z3
 |hop n o=>
  walk_at "wd"
  repeat walk_at "sc"
  refine ax (λe=>?_) (λe=>?_)
  .walk_at "wd";rename_i l1 H1 z1 l2 H2 z2 p H3 z3;exact fi [] [] rfl rfl z3
  walk_at "wd"
  repeat walk_at "sc"
  rename_i l1 H1 z1 l2 H2 z2 p H3 z3;exact fi [] [] rfl rfl z3
def eh {sp t l1 l2:Addr}{tl:List V}{ls ps:List Int}{E:St->XK}{u:Option V}(hk:2<=k)(z1:Sep (tu t [u8 l1,u8 l2]::pt l1 (v6 (ls.map ul))::pt l2 (v6 (ps.map ul))::tu sp tl::ao d x::pt lv (v6 (ws.map ut))::O) H)
  (q0:bh ws ls ps=none->∀ H',Sep (tu sp tl::ao d x::pt lv (v6 (ws.map ut))::O) H'->D.rt v4 H')
  (q1:∀ dd c,bh ws ls ps=some (dd,c)->∀ t H',Sep (pt t (wf [ut dd,ul c,ul 0])::tu sp tl::ao d x::pt lv (v6 (ws.map ut))::O) H'->D.rt (u8 t) H'):
  wB (f9 2 bM.body) ⟨tab,R,aa tab R (k-1),true⟩ D E [some (u8 sp),some (u8 d),some (u8 lv),some (u8 l1),some (u8 l2),u] H:=by
 right;refine l0 (xs:=ls.map ul) (λj U H=>∃ v,U=[some (u8 sp),some (u8 d),some (u8 lv),some (u8 l1),some (u8 l2),v]/\(∀ i x,i<j->ls[i]? =some x->ah ws "look" x=true)/\Sep (tu t [u8 l1,u8 l2]::pt l1 (v6 (ls.map ul))::pt l2 (v6 (ps.map ul))::tu sp tl::ao d x::pt lv (v6 (ws.map ut))::O) H) ?_ ?_ ?_ ?_
 .exact⟨_,rfl,λi x hi=>absurd hi nofun,z1⟩
 .rintro j U H ⟨v,rfl,_,hs⟩;exact aY.of (by grind)
 .rintro j y U H hx ⟨v,rfl,hb,hs⟩;rw[im]at hx;obtain⟨c,hc,rfl⟩:=nb.mp hx;right;refine x8 nofun hs (by symm) ?_;right;refine bq (λhm=>?_) (λhm=>?_)
  .right;refine⟨_,rfl,λi x hi hxx=>?_,hs⟩
   by_cases e:i=j
   .subst e;rw[hc]at hxx;cases hxx;exact hm
   .exact hb i x nofun hxx
  .right;rename_i p H2 z2;refine q1 "look" c ?_ p H2 ?_
   .unfold bh;rw[mw hb hc hm]
   .walk_at "sp"
 .rintro U H ⟨v,rfl,hb,hs⟩;have e0:aP ws "look" ls=none:=jG λc hc=>by
   obtain⟨i,hi⟩:=List.mem_iff_getElem?.mp hc;have:=(sn.mp hi).1;exact hb i c (by rw[ce];exact this) hi
  right;refine l0 (xs:=ps.map ul) (λj U H=>∃ v,U=[some (u8 sp),some (u8 d),some (u8 lv),some (u8 l1),some (u8 l2),v]/\(∀ i x,i<j->ps[i]? =some x->ah ws "put" x=true)/\Sep (tu t [u8 l1,u8 l2]::pt l1 (v6 (ls.map ul))::pt l2 (v6 (ps.map ul))::tu sp tl::ao d x::pt lv (v6 (ws.map ut))::O) H) ?_ ?_ ?_ ?_
  .exact⟨_,rfl,λi x hi=>absurd hi nofun,hs⟩
  .rintro j U H ⟨v,rfl,_,hs⟩;exact aY.of (by grind)
  .rintro j y U H hx ⟨v,rfl,hb,hs⟩;rw[im]at hx;obtain⟨c,hc,rfl⟩:=nb.mp hx;right;refine x8 nofun hs (by symm) ?_;right;refine bq (λhm=>?_) (λhm=>?_)
   .right;refine⟨_,rfl,λi x hi hxx=>?_,hs⟩
    by_cases e:i=j
    .subst e;rw[hc]at hxx;cases hxx;exact hm
    .exact hb i x nofun hxx
   .right;rename_i p H2 z2;refine q1 "put" c ?_ p H2 ?_
    .unfold bh;rw[e0];exact mw hb hc hm
    .walk_at "sp"
  .rintro U H ⟨v,rfl,hb2,hs⟩;right;refine q0 ?_ H (by walk_at "sp");unfold bh;rw[e0];exact jG λc hc=>by
    obtain⟨i,hi⟩:=List.mem_iff_getElem?.mp hc;have:=(sn.mp hi).1;exact hb2 i c (by rw[ce];exact this) hi
abbrev jn.tl:jn->List V
 | .on r _ _=>[ut "on",ul r,ul 0]
 | .no d c=>[ut d,ul c,ul 0]
 | .nf b i=>[ut "fit",ut b.nm,ul i]
def bF {sp:Addr}(r:Rw)(hk:2<=k)(hr:∀ b,r=.sp (.write b)->el (ul (x.g b))=true) (z:Sep (tu sp r.tl::ao d x::pt lv (v6 (ws.map ut))::O) H)
  (q0:bh ws (yD x r) (yH x r)=none->∀ H',Sep (tu sp r.tl::ao d x::pt lv (v6 (ws.map ut))::O) H'->Q v4 H')
  (q1:∀ dd c,bh ws (yD x r) (yH x r)=some (dd,c)->∀ t H',Sep (pt t (wf [ut dd,ul c,ul 0])::tu sp r.tl::ao d x::pt lv (v6 (ws.map ut))::O) H'->Q (u8 t) H'):aa tab R k 93 [u8 sp,u8 d,u8 lv] H Q E:=by
 delta bM;cases r with
 |sp s=>
  cases s
  case write b=>
   have hc:(decide (0<=x.g b)&&decide (x.g b<=1000000000))=true:=hr b rfl;have hc:0<=x.g b/\x.g b<=1000000000:=by simpa using hc
   right
   repeat walk_at "sc"
   refine kr z .k1 ?_;right;refine aI (λh0=>?_) (λh0=>absurd hc.1 h0);right;rw[j5];refine aI (λh0=>?_) (λh0=>absurd hc.2 h0);right;refine gp (.sp (.write b)) nofun z (λt l1 l2 H1 z1=>?_);right;refine⟨t,_,rfl,.inl (aZ.of z1.atT),rfl,?_⟩;exact eh hk z1 q0 q1
  all_goals
   right
   repeat walk_at "sc"
   refine gp (.sp _) nofun z (λt l1 l2 H1 z1=>?_);right;refine⟨t,_,rfl,.inl (aZ.of z1.atT),rfl,?_⟩;exact eh hk z1 q0 q1
 |lg w=>
  cases w
  all_goals
   right
   repeat walk_at "sc"
   refine gp (.lg _) nofun z (λt l1 l2 H1 z1=>?_);right;refine⟨t,_,rfl,.inl (aZ.of z1.atT),rfl,?_⟩;exact eh hk z1 q0 q1
 |hop n o=>
  right
  repeat walk_at "sc"
  refine gp (.hop n o) nofun z (λt l1 l2 H1 z1=>?_);right;refine⟨t,_,rfl,.inl (aZ.of z1.atT),rfl,?_⟩;exact eh hk z1 q0 q1
def uu {sp:Addr}{b:Bn}(hk:2<=k)(hb:el (ul (x.g b))=false)(z:Sep (tu sp (Rw.tl (.sp (.write b)))::ao d x::pt lv (v6 (ws.map ut))::O) H)
  (q:∀ t H',Sep (pt t (wf [ut "fit",ut b.nm,ul (x.g b)])::tu sp (Rw.tl (.sp (.write b)))::ao d x::pt lv (v6 (ws.map ut))::O) H'->Q (u8 t) H'):aa tab R k 93 [u8 sp,u8 d,u8 lv] H Q E:=by
 delta bM;have hc:(decide (0<=x.g b)&&decide (x.g b<=1000000000))=false:=hb;have hc:0<=x.g b->¬ x.g b<=1000000000:=by simpa using hc
 right
 repeat walk_at "sc"
 refine kr z .k1 ?_;right;refine aI (λh0=>?_) (λh0=>?_)
 .right;rw[j5];refine aI (λh1=>absurd h1 (hc h0)) (λh1=>?_);right;refine kr z .k1 ?_;right;rename_i t H1 z1;exact q t H1 z1
 .right;refine kr z .k1 ?_;right;rename_i t H1 z1;exact q t H1 z1
def vT {sp p:Addr}{cs:List Int}(r:Rw)(hk:3<=k)(hr:r.ok)(hx:0<=x.l)(hl:cs.length=ws.length)(z:Sep (tu sp r.tl::ao d x::pt p (v6 (cs.map ul))::pt lv (v6 (ws.map ut))::O) H)
  (q:∀ td H',Sep (pt td (wf (dr x cs ws r).tl)::tu sp r.tl::ao d ((dr x cs ws r).bx x)::pt p (v6 (((dr x cs ws r).cs cs).map ul))::pt lv (v6 (ws.map ut))::O) H'->Q (u8 td) H'):aa tab R k 94 [u8 sp,u8 d,u8 p,u8 lv] H Q E:=by
 delta hR;have z0:Sep (tu sp r.tl::ao d x::pt lv (v6 (ws.map ut))::pt p (v6 (cs.map ul))::O) H:=z.sub (by ac_nf);right;cases r with
 |lg w=>
  refine bF (.lg w) nofun (λb e=>by cases e) z0 (λhb H1 z1=>?_) (λdd c hb t H1 z1=>?_)
  .right;refine bt ?_;left;refine ak rfl ?_;right;rename_i tp H2 z2;refine eG (aZ.of z2.at) rfl rfl ?_;left;refine ak (by cases w<;>decide+kernel) ?_;right;refine ak (by cases w<;>decide+kernel) ?_;right;refine ak (by cases w<;>decide+kernel) ?_;right;refine Ai w (O:=pt lv (v6 (ws.map ut))::tu sp (Rw.tl (.lg w))::O) nofun hx hl hb (z2.sub (by ac_nf)) ?_;have q:∀ td H',Sep (pt td (wf (ofM (bU w x cs ws)).tl)::tu sp (Rw.tl (.lg w))::ao d ((ofM (bU w x cs ws)).bx x)::pt p (v6 (((ofM (bU w x cs ws)).cs cs).map ul))::pt lv (v6 (ws.map ut))::O) H'->Q (u8 td) H':=q
   revert q
   cases bU w x cs ws with
   |no dd c=>exact λ_=>True.intro
   |on n x' cs'=>
    intro q H3 z3;right;rename_i t H4 z4;exact q t H4 (z4.sub (.cons .e (.cons .k3 .refl)))
  .have e:dr x cs ws (.lg w)=.no dd c:=congrArg ofM (CG hx hb);rw[e]at q;right;refine bt ?_;left;refine aG rfl ?_;left;exact q t H1 (z1.sub (.cons .e (.cons .e (.cons .e (.cons .k1 .refl)))))
 |hop n o=>
  refine bF (.hop n o) nofun (λb e=>by cases e) z0 (λhb H1 z1=>?_) (λdd c hb t H1 z1=>by cases hb);right;refine bt ?_;left;refine ak rfl ?_;right;rename_i tp H2 z2;refine eG (aZ.of z2.at) rfl rfl ?_;left;refine ak (by decide+kernel) ?_;right
  repeat walk_at "sc"
  have hn:∀ c:Bool,pT n (b2i c):=λc=>by cases c<;>(unfold pT b2i;have:=hr.1;omega)
  refine gI ?_;cases o with
  |none=>
   left;refine aG rfl ?_;right;refine jj ?_;left;refine⟨hn true,?_⟩;right;rename_i t H4 z4;have e:1+n*b2i true=1+n:=by rw[show b2i true=1 from rfl,Int.mul_one]
   rw[e]at z4;exact q t H4 (z4.sub (.cons .e (.cons .k1 (.cons .k1 (.cons .k2 (.cons .k1 (.drop .refl)))))))
  |some i=>
   left;refine ak rfl ?_;right;refine kr (n:=.m) z2 (by symm) ?_;right;refine jj ?_;left;refine⟨hn _,?_⟩;right;rename_i t H4 z4;have e:1+n*b2i (cJ (oV (some i)) (ul (x.g Bn.m)))=if i=x.m then 1+n else 1:=by
    show 1+n*b2i (i ==x.m)=_
    by_cases h:i=x.m
    .rw[if_pos h,show(i ==x.m)=true by simpa using h,show b2i true=1 from rfl,Int.mul_one]
    .rw[if_neg h,show(i ==x.m)=false by simpa using h,show b2i false=0 from rfl,Int.mul_zero,Int.add_zero]
   rw[e]at z4;exact q t H4 (z4.sub (.cons .e (.cons .k1 (.cons .k1 (.cons .k2 (.cons .k1 (.drop .refl)))))))
 |sp s=>
  have q:∀ td H',Sep (pt td (wf (iy (fq x cs ws s)).tl)::tu sp s.tl::ao d ((iy (fq x cs ws s)).bx x)::pt p (v6 (((iy (fq x cs ws s)).cs cs).map ul))::pt lv (v6 (ws.map ut))::O) H'->Q (u8 td) H':=q;cases s with
  |set n i=>
   have q:∀ td H',Sep (pt td (wf (iy (aV x cs n i)).tl)::tu sp (Sp.tl (.set n i))::ao d ((iy (aV x cs n i)).bx x)::pt p (v6 (((iy (aV x cs n i)).cs cs).map ul))::pt lv (v6 (ws.map ut))::O) H'->Q (u8 td) H':=q;refine bF (.sp (.set n i)) nofun (λb e=>by cases e) z0 (λhb H1 z1=>?_) (λdd c hb t H1 z1=>by cases hb);right;refine bt ?_;left;refine ak rfl ?_;right;rename_i tp H2 z2;refine eG (aZ.of z2.at) rfl rfl ?_;left;refine aG (by decide+kernel) ?_;right
   repeat walk_at "sc"
   refine jf (n:=n) (i:=i) nofun ?_;cases hf:aU n (i) with
   |false=>
    rw[aV,if_neg (by rw[hf];exact Bool.false_ne_true)]at q;right;rename_i td H3 z3;exact q td H3 (z3.sub (.cons .e (.cons .k1 (.cons .k1 (.cons .k2 (.cons .k1 (.drop .refl)))))))
   |true=>
    rw[aV,if_pos hf]at q;right;refine zP (n:=n) (i:=i) z2 (by ac_rfl) (λH3 z3=>?_);right;rename_i td H4 z4;exact q td H4 (z4.sub (.cons .e (.cons .k1 (.cons .k1 (.cons .k2 (.cons .k1 (.drop .refl)))))))
  |add n i=>
   have q:∀ td H',Sep (pt td (wf (iy (aV x cs n (x.g n+i))).tl)::tu sp (Sp.tl (.add n i))::ao d ((iy (aV x cs n (x.g n+i))).bx x)::pt p (v6 (((iy (aV x cs n (x.g n+i))).cs cs).map ul))::pt lv (v6 (ws.map ut))::O) H'->Q (u8 td) H':=q;refine bF (.sp (.add n i)) nofun (λb e=>by cases e) z0 (λhb H1 z1=>?_) (λdd c hb t H1 z1=>by cases hb);right;refine bt ?_;left;refine ak rfl ?_;right;rename_i tp H2 z2;refine eG (aZ.of z2.at) rfl rfl ?_;left;refine aG (by decide+kernel) ?_;right
   repeat walk_at "sc"
   refine kr (n:=n) z2 (by symm) ?_;right
   repeat walk_at "sc"
   refine jf (n:=n) (i:=x.g n+i) nofun ?_;cases hf:aU n (x.g n+i) with
   |false=>
    rw[aV,if_neg (by rw[hf];exact Bool.false_ne_true)]at q;right;rename_i td H3 z3;exact q td H3 (z3.sub (.cons .e (.cons .k1 (.cons .k1 (.cons .k2 (.cons .k1 (.drop .refl)))))))
   |true=>
    rw[aV,if_pos hf]at q;right;refine zP (n:=n) (i:=x.g n+i) z2 (by ac_rfl) (λH3 z3=>?_);right;rename_i td H4 z4;exact q td H4 (z4.sub (.cons .e (.cons .k1 (.cons .k1 (.cons .k2 (.cons .k1 (.drop .refl)))))))
  |take n m=>
   have q:∀ td H',Sep (pt td (wf (iy (aV x cs n (x.g m))).tl)::tu sp (Sp.tl (.take n m))::ao d ((iy (aV x cs n (x.g m))).bx x)::pt p (v6 (((iy (aV x cs n (x.g m))).cs cs).map ul))::pt lv (v6 (ws.map ut))::O) H'->Q (u8 td) H':=q;refine bF (.sp (.take n m)) nofun (λb e=>by cases e) z0 (λhb H1 z1=>?_) (λdd c hb t H1 z1=>by cases hb);right;refine bt ?_;left;refine ak rfl ?_;right;rename_i tp H2 z2;refine eG (aZ.of z2.at) rfl rfl ?_;left;refine aG (by decide+kernel) ?_;right
   repeat walk_at "sc"
   refine kr (n:=m) z2 (by symm) ?_;right
   repeat walk_at "sc"
   refine jf (n:=n) (i:=x.g m) nofun ?_;cases hf:aU n (x.g m) with
   |false=>
    rw[aV,if_neg (by rw[hf];exact Bool.false_ne_true)]at q;right;rename_i td H3 z3;exact q td H3 (z3.sub (.cons .e (.cons .k1 (.cons .k1 (.cons .k2 (.cons .k1 (.drop .refl)))))))
   |true=>
    rw[aV,if_pos hf]at q;right;refine zP (n:=n) (i:=x.g m) z2 (by ac_rfl) (λH3 z3=>?_);right;rename_i td H4 z4;exact q td H4 (z4.sub (.cons .e (.cons .k1 (.cons .k1 (.cons .k2 (.cons .k1 (.drop .refl)))))))
  |read n=>
   have q:∀ td H',Sep (pt td (wf (iy (if ah ws "look" x.h=true then aV x cs n (gt cs x.h) else .no "look" x.h)).tl)::tu sp (Sp.tl (.read n))::ao d ((iy (if ah ws "look" x.h=true then aV x cs n (gt cs x.h) else .no "look" x.h)).bx x)::pt p (v6 (((iy (if ah ws "look" x.h=true then aV x cs n (gt cs x.h) else .no "look" x.h)).cs cs).map ul))::pt lv (v6 (ws.map ut))::O) H'->Q (u8 td) H':=q;refine bF (.sp (.read n)) nofun (λb e=>by cases e) z0 (λhb H1 z1=>?_) (λdd c hb t H1 z1=>?_)
   .obtain⟨hm,_⟩:=aB (fO hb).1;have hm:ah ws "look" x.h=true:=hm;have g:=aj hm;rw[if_pos hm]at q;right;refine bt ?_;left;refine ak rfl ?_;right;rename_i tp H2 z2;refine eG (aZ.of z2.at) rfl rfl ?_;left;refine aG (by decide+kernel) ?_;right
    repeat walk_at "sc"
    refine kr (n:=.h) z2 (by symm) ?_;right;refine ba (i:=x.h) (by grind) (fX g.1 nofun) ?_;right
    repeat walk_at "sc"
    refine jf (n:=n) (i:=gt cs x.h) nofun ?_;cases hf:aU n (gt cs x.h) with
    |false=>
     rw[aV,if_neg (by rw[hf];exact Bool.false_ne_true)]at q;right;rename_i td H3 z3;exact q td H3 (z3.sub (.cons .e (.cons .k1 (.cons .k1 (.cons .k2 (.cons .k1 (.drop .refl)))))))
    |true=>
     rw[aV,if_pos hf]at q;right;refine zP (n:=n) (i:=gt cs x.h) z2 (by ac_rfl) (λH3 z3=>?_);right;rename_i td H4 z4;exact q td H4 (z4.sub (.cons .e (.cons .k1 (.cons .k1 (.cons .k2 (.cons .k1 (.drop .refl)))))))
   .have hm:ah ws "look" x.h=false/\dd="look"/\c=x.h:=by
     cases e:ah ws "look" x.h with
     |true=>rw[show bh ws (yD x (.sp (.read n))) (yH x (.sp (.read n)))=none by show bh ws [x.h] []=none;unfold bh aP;rw[if_pos e];rfl]at hb;cases hb
     |false=>
      rw[show bh ws (yD x (.sp (.read n))) (yH x (.sp (.read n)))=some (("look":Str),x.h) by show bh ws [x.h] []=_;unfold bh aP;rw[if_neg (nt e)]]at hb;cases hb;exact⟨rfl,rfl,rfl⟩
    obtain⟨e1,rfl,rfl⟩:=hm;rw[if_neg (nt e1)]at q;right;refine bt ?_;left;refine aG rfl ?_;left;exact q t H1 (z1.sub (.cons .e (.cons .e (.cons .e (.cons .k1 .refl)))))
  |write n=>
   have q:∀ td H',Sep (pt td (wf (iy (if el (ul (x.g n))=true then(if ah ws "put" x.t=true then .on x (cs.set x.t.toNat (x.g n)) else .no "put" x.t) else .nf n (x.g n))).tl)::tu sp (Sp.tl (.write n))::ao d ((iy (if el (ul (x.g n))=true then(if ah ws "put" x.t=true then .on x (cs.set x.t.toNat (x.g n)) else .no "put" x.t) else .nf n (x.g n))).bx x)::pt p (v6 (((iy (if el (ul (x.g n))=true then(if ah ws "put" x.t=true then .on x (cs.set x.t.toNat (x.g n)) else .no "put" x.t) else .nf n (x.g n))).cs cs).map ul))::pt lv (v6 (ws.map ut))::O) H'->Q (u8 td) H':=q;cases hc:el (ul (x.g n)) with
   |false=>
    rw[if_neg (nt hc)]at q;refine uu nofun hc z0 (λt H1 z1=>?_);right;refine bt ?_;left;refine aG rfl ?_;left;exact q t H1 (z1.sub (.cons .e (.cons .e (.cons .e (.cons .k1 .refl)))))
   |true=>
    rw[if_pos hc]at q;refine bF (.sp (.write n)) nofun (λb e=>by cases e;exact hc) z0 (λhb H1 z1=>?_) (λdd c hb t H1 z1=>?_)
    .have hm:ah ws "put" x.t=true:=(aB (fO hb).2).1;have g:=aj hm;rw[if_pos hm]at q;right;refine bt ?_;left;refine ak rfl ?_;right;rename_i tp H2 z2;refine eG (aZ.of z2.at) rfl rfl ?_;left;refine ak (by decide+kernel) ?_;right
     repeat walk_at "sc"
     refine kr (n:=n) z2 (by symm) ?_;right;refine kr (n:=.t) z2 (by symm) ?_;left;refine dZ (i:=x.t) z2 (by ac_rfl) (cF g.1 (by rw[ce];omega)) cg (λH3 z3=>?_);right;rename_i td H4 z4;exact q td H4 (z4.sub (.cons .e (.cons .k1 (.cons .k1 (.cons .k2 (.cons .k1 (.drop .refl)))))))
    .have hm:ah ws "put" x.t=false/\dd="put"/\c=x.t:=by
      cases e:ah ws "put" x.t with
      |true=>rw[show bh ws (yD x (.sp (.write n))) (yH x (.sp (.write n)))=none by show bh ws [] [x.t]=none;unfold bh aP;dsimp only;unfold aP;rw[if_pos e]]at hb;cases hb
      |false=>
       rw[show bh ws (yD x (.sp (.write n))) (yH x (.sp (.write n)))=some (("put":Str),x.t) by show bh ws [] [x.t]=_;unfold bh aP;dsimp only;unfold aP;rw[if_neg (nt e)]]at hb;cases hb;exact⟨rfl,rfl,rfl⟩
     obtain⟨e1,rfl,rfl⟩:=hm;rw[if_neg (nt e1)]at q;right;refine bt ?_;left;refine aG rfl ?_;left;exact q t H1 (z1.sub (.cons .e (.cons .e (.cons .e (.cons .k1 .refl)))))
def vL {t:Addr}(r:Rw)(ro:Ro K R)(hk:5<=k)(ok:r.ok)(z:Sep (tu t r.tl::O) H)(q:∀ d H',Sep (lG R d r::tu t r.tl::O) H'->Q (u8 d) H'):aa tab R k 88 [u8 t] H Q E:=by
 delta iI;cases r with
 |lg w=>
  have f:∀ x ∈ ([("set":Str),"add","take","read","write","hop"]),cJ (ut w.s) (ut x)=false:=by cases w<;>decide+kernel
  right;refine ak (f "set" (by decide)) ?_;right;refine ak (f "add" (by decide)) ?_;right;refine ak (f "take" (by decide)) ?_;right;refine ak (f "read" (by decide)) ?_;right;refine ak (f "write" (by decide)) ?_;right;refine ak (f "hop" (by decide)) ?_;right;exact Co w nofun z q
 |hop n o=>
  right
  repeat walk_at "sc"
  intro d dx g1 g2 g3;exact GO ro nofun ok.1.1 ok.1.2 ok.2 (g7 z g1 g2 g3) (λH2 z2=>⟨rfl,q d H2 z2⟩)
 |sp s=>
  cases s with
  |set n i=>
   right
   repeat walk_at "sc"
   intro d dx g1 g2 g3;exact FC ro nofun ok.1 ok.2 (g7 z g1 g2 g3) (λH2 z2=>⟨rfl,q d H2 z2⟩)
  |add n i=>
   right
   repeat walk_at "sc"
   intro d dx g1 g2 g3;exact Gm ro nofun ok.1 ok.2 (g7 z g1 g2 g3) (λH2 z2=>⟨rfl,q d H2 z2⟩)
  |take n m=>
   right
   repeat walk_at "sc"
   intro d dx g1 g2 g3;exact Fh ro nofun (g7 z g1 g2 g3) (λH2 z2=>⟨rfl,q d H2 z2⟩)
  |read n=>
   right
   repeat walk_at "sc"
   intro d dx g1 g2 g3;exact Gq ro nofun (g7 z g1 g2 g3) (λH2 z2=>⟨rfl,q d H2 z2⟩)
  |write n=>
   right
   repeat walk_at "sc"
   intro d dx g1 g2 g3;exact GL ro nofun (g7 z g1 g2 g3) (λH2 z2=>⟨rfl,q d H2 z2⟩)
def FY:fin l=0\/fin l=1:=by
 unfold fin
 split
 .exact .inr rfl
 .exact .inl rfl
abbrev idx (wd:Wd)(x:Bx):Int:=match wd with
 | .fill=>x.t
 | .shift=>if x.t<=x.h then x.h else x.h+x.l-1
 |_=>x.h
abbrev dir (wd:Wd)(x:Bx):Int:=match wd with
 | .shift=>if x.t<=x.h then 1 else -1
 | .turn=>1
 |_=>x.w
abbrev gone (n:Nat)(w h h':Int):Prop:=h'=h\/(0<=h/\h<n)/\(h'=h+w\/h'=h+1)
def gO {d:Str}{w h:Int}(m:ah ws d h=true):gone ws.length w h (h+w):=.inr ⟨aj m,.inl rfl⟩
def qy {d:Str}{w h:Int}(m:ah ws d h=true):gone ws.length w h (h+1):=.inr ⟨aj m,.inr rfl⟩
abbrev wg (x x':Bx)(n:Nat):Prop:=x'.w=x.w/\(0<=x.l->0<=x'.l)/\(x.ok->n<=60->x'.ok)
def bV {h' t' l' m':Int}(hh:gone n x.w x.h h')(ht:gone n x.w x.t t')(hl:0<=x.l->0<=l'/\l'<=x.l)(hm:m'=x.m\/m'=0\/m'=1):wg x ⟨h',t',l',x.w,x.s,m'⟩ n:=by
 refine⟨rfl,λz=>(hl z).1,λok hn=>?_⟩;obtain⟨o1,o2,o3,o4,o5,o6⟩:=ok;have b:=hl o3.1;have gg:∀ {h h':Int},gone n x.w h h'-> -1000000000<=h/\h<=1000000000-> -1000000000<=h'/\h'<=1000000000:=λ{h h'} g o=>by
  rcases g with rfl|⟨g,e⟩
  .exact o
  .omega
 exact⟨gg hh o1,gg ht o2,⟨b.1,Int.le_trans b.2 o3.2⟩,o4,o5,hm.elim (λe=>o6.imp (e.trans ·) (e.trans ·)) id⟩
def aO {P:Out->Prop}{c:Prop} [Decidable c] {a b:Out}(h:c->P a)(g:¬ c->P b):P (if c then a else b):=by
 by_cases e:c
 .rw[if_pos e];exact h e
 .rw[if_neg e];exact g e
def ER (e:¬ l=0)(z:0<=l):0<=l+ -1/\l+ -1<=l:=by omega
section
variable {P:Out->Prop}{wd:Wd}{x:Bx}{cs:List Int}{ws:List Str}
def xO {j:Int}{f:List Int->Out}(no:∀ (d:Str) (c:Int),d="look"\/d="put"->P (.no d c)) (h:ah ws "look" i=true->ah ws "put" j=true->P (f (cs.set j.toNat (gt cs i)))):P (hm cs ws i j f):=
 aO (λa=>aO (h a) (λ_=>no _ _ (.inr rfl))) (λ_=>no _ _ (.inl rfl))
def vN (done:∀ x',wg x x' ws.length->P (.on 1 x' cs)) (no:∀ (d:Str) (c:Int),d="look"\/d="put"->P (.no d c))
  (go:∀ x' cs',wg x x' ws.length->cs'.length=cs.length->(0<=idx wd x/\idx wd x<ws.length)/\idx wd x'=idx wd x+dir wd x/\dir wd x'=dir wd x->P (.on (fin x'.l) x' cs')):P (bU wd x cs ws):=by
 have sm:∀ {m':Int},m'=x.m\/m'=0\/m'=1->wg x ⟨x.h,x.t,x.l,x.w,x.s,m'⟩ ws.length:=λe=>bV (.inl rfl) (.inl rfl) (λz=>⟨z,Int.le_refl _⟩) e
 have lk:∀ {c},P (.no "look" c):=no _ _ (.inl rfl);have pu:∀ {c},P (.no "put" c):=no _ _ (.inr rfl);cases wd
 .exact aO (λ_=>done _ (sm (.inl rfl))) λe=>xO no λa b=>go _ _ (bV (gO a) (gO b) (ER e) (.inl rfl)) (length_set ..) ⟨aj a,rfl,rfl⟩
 .exact aO (λ_=>done _ (sm (.inl rfl))) λe=>aO (λb=>go _ _ (bV (.inl rfl) (gO b) (ER e) (.inl rfl)) (length_set ..) ⟨aj b,rfl,rfl⟩) λ_=>pu
 .exact aO (λ_=>done _ (sm (.inr (.inl rfl)))) λe=>aO (λa=>aO (λ_=>done _ (sm (.inr (.inr rfl)))) λ_=>go _ _ (bV (gO a) (.inl rfl) (ER e) (.inr (.inl rfl))) rfl ⟨aj a,rfl,rfl⟩) λ_=>lk
 .exact aO (λ_=>done _ (sm (.inr (.inr rfl)))) λe=>aO (λa=>aO (λb=>aO (λ_=>go _ _ (bV (gO a) (gO b) (ER e) (.inr (.inr rfl))) rfl ⟨aj a,rfl,rfl⟩) λ_=>done _ (sm (.inr (.inl rfl)))) λ_=>lk) λ_=>lk
 .refine aO (λ_=>done _ (sm (.inl rfl))) λe=>aO (λc=>xO no λa b=>go _ _ (bV (qy a) (qy b) (ER e) (.inl rfl)) (length_set ..) ?_) λc=>xO no λa b=>go _ _ (bV (.inl rfl) (.inl rfl) (ER e) (.inl rfl)) (length_set ..) ?_
  .have g:=aj a;unfold idx dir;dsimp only;rw[if_pos c,if_pos c,if_pos nofun,if_pos nofun];exact⟨g,rfl,rfl⟩
  .have g:=aj a;unfold idx dir;dsimp only;rw[if_neg c,if_neg c];exact⟨g,by omega,rfl⟩
 .exact aO (λ_=>done _ (sm (.inl rfl))) λe=>aO (λc=>done _ (bV (.inl rfl) (.inl rfl) (λz=>⟨Int.le_refl _,z⟩) (.inl rfl))) λc=>
   aO (λa=>aO (λ_=>aO (λ_=>aO (λ_=>go _ _ (bV (qy a) (.inl rfl) (λz=>by omega) (.inl rfl)) ((length_set ..).trans (length_set ..)) ⟨aj a,rfl,rfl⟩) λ_=>pu) λ_=>pu) λ_=>lk) λ_=>lk
end
variable {x':Bx}
def ql {cs:List Int}(h:bU wd x cs ws=.on r x' cs'):
  wg x x' ws.length/\cs'.length=cs.length/\(r=0\/r=1)/\(r=0->(0<=idx wd x/\idx wd x<ws.length)/\idx wd x'=idx wd x+dir wd x/\dir wd x'=dir wd x):=by
 revert h
 refine vN (P:=λo=>o=.on r x' cs'->_) (λy w e=>?_) (λ_ _ _ e=>by cases e) (λy c w l g e=>?_)
 .cases e;exact⟨w,rfl,.inr rfl,λz=>by cases z⟩
 .cases e;exact⟨w,l,FY,λ_=>g⟩
def wF {cs:List Int}{d:Str}(h:bU wd x cs ws=.no d c):d="look"\/d="put":=by
 revert h
 exact vN (P:=λo=>o=.no d c->_) (λ_ _ e=>by cases e) (λ_ _ h e=>by cases e;exact h) (λ_ _ _ _ _ e=>by cases e)
def uD {cs:List Int}{r:Rw}{d:Str}(h:dr x cs ws r=.no d c):d="look"\/d="put":=by
 have gv:∀ {b:Bn}{i:Int},iy (aV x cs b i)≠.no d c:=λ{b i} e=>by
  unfold aV at e
  split at e<;>cases e
 cases r with
 |lg w=>
  have h:ofM (bU w x cs ws)=.no d c:=h;cases e:bU w x cs ws with
  |on r x' cs'=>rw[e]at h;cases h
  |no d' c'=>rw[e]at h;cases h;exact wF e
 |hop n o=>cases h
 |sp s=>
  cases s with
  |set n i=>exact absurd h gv
  |add n i=>exact absurd h gv
  |take n m=>exact absurd h gv
  |read n=>
   have h:iy (if ah ws "look" x.h=true then aV x cs n (gt cs x.h) else .no "look" x.h)=.no d c:=h
   split at h
   .exact absurd h gv
   .cases h;exact .inl rfl
  |write n=>
   have h:iy (if el (ul (x.g n))=true then(if ah ws "put" x.t=true then .on x (cs.set x.t.toNat (x.g n)) else .no "put" x.t) else .nf n (x.g n))=.no d c:=h
   split at h
   .split at h
    .cases h
    .cases h;exact .inr rfl
   .cases h
abbrev bP (O:List az)(ss:List V)(rs:List Rw):Prop:=ss.length=rs.length/\(∀ r ∈ rs,r.ok)/\∀ (i:Nat) (r:Rw),rs[i]? =some r->∃ t Δ,ss[i]? =some (u8 t)/\ag (tu t r.tl) O Δ
def bP.more (h:bP O ss rs):bP (A::O) ss rs:=⟨h.1,h.2.1,λi r e=>by
 obtain⟨a,Δ,e2,p⟩:=h.2.2 i r e;exact⟨a,_,e2,.t p⟩⟩
noncomputable abbrev bZ (w d p lv:Addr)(at_:Int)(x:Bx)(cs:List Int)(ws:List Str)(O:List az):List az:=pt w (v6 [ul at_,u8 d,u8 p,u8 lv])::ao d x::pt p (v6 (cs.map ul))::pt lv (v6 (ws.map ut))::O
section
variable {w d p lv SP:Addr}{at_:Int}{ss:List V}{rs:List Rw}{x:Bx}{cs:List Int}{ws:List Str}
def CW (hk:4<=k)(h0:0<=at_)(h1:at_<=ss.length)(hx:0<=x.l)(hl:cs.length=ws.length)(hs:bP O ss rs)(z:Sep (bZ w d p lv at_ x cs ws (pt SP (v6 ss)::O)) H)
  (q:∀ H',Sep (bZ w d p lv (mS rs at_ x cs ws).at_ (mS rs at_ x cs ws).x (mS rs at_ x cs ws).cs ws (pt SP (v6 ss)::O)) H'->Q (ut (mS rs at_ x cs ws).w) H'):aa tab R k 98 [u8 SP,u8 w] H Q E:=by
 delta iP;have hl1:=hs.1;unfold mS at q;right;refine ax (λhe=>?_) (λhe=>?_)
 .rw[List.getElem?_eq_none nofun]at q;right;exact q H z
 .have hlt:at_.toNat<rs.length:=by omega
  have er:rs[at_.toNat]? =some rs[at_.toNat]:=le hlt;have ok:=hs.2.1 _ (getElem_mem hlt);generalize rs[at_.toNat]=r at er ok;obtain⟨t,Δ,e2,pt_⟩:=hs.2.2 _ _ er;rw[er]at q;dsimp only at q;right;refine ba (i:=at_) (by grind) (a8 h0 e2) ?_;right;refine vT (O:=pt w (v6 [ul at_,u8 d,u8 p,u8 lv])::pt SP (v6 ss)::O) r nofun ok hx hl (Sep.HD (z.DW (.j2 (.j2 (.t pt_)))) (z.sub (by ac_nf))) (λtd H2 z2=>?_);clear z;generalize ho:dr x cs ws r=o at q z2;cases o with
  |on n x' cs'=>
   have z2:Sep (pt td (wf [ut "on",ul n,ul 0])::tu t r.tl::ao d x'::pt p (v6 (cs'.map ul))::pt lv (v6 (ws.map ut))::pt w (v6 [ul at_,u8 d,u8 p,u8 lv])::pt SP (v6 ss)::O) H2:=z2;right
   repeat walk_at "sc"
   rename_i H3 z3;rw[show min (ss.length:Int) (at_+n)=min (at_+n) rs.length by rw[Int.min_comm,hl1]]at z3;exact q H3 (z3.sub (by ac_nf))
  |no dd c=>
   have z2:Sep (pt td (wf [ut dd,ul c,ul 0])::tu t r.tl::ao d x::pt p (v6 (cs.map ul))::pt lv (v6 (ws.map ut))::pt w (v6 [ul at_,u8 d,u8 p,u8 lv])::pt SP (v6 ss)::O) H2:=z2;right;refine ak (by rcases uD ho with rfl|rfl<;>decide+kernel) ?_;right;exact q H2 (z2.sub (by ac_nf))
  |nf n i=>
   have z2:Sep (pt td (wf [ut "fit",ut n.nm,ul i])::tu t r.tl::ao d x::pt p (v6 (cs.map ul))::pt lv (v6 (ws.map ut))::pt w (v6 [ul at_,u8 d,u8 p,u8 lv])::pt SP (v6 ss)::O) H2:=z2;right
   repeat walk_at "sc"
   exact q H2 (z2.sub (by ac_nf))
end
section
variable {m l s b:Addr}{at_:Int}{ds:List V}{rs:List Rw}{x:Bx}{cs:List Int}{ws:List Str}
def vx (z:Sep O H)(e:H a=some (wf xs))(h:∀ p H',Sep (pt p (v6 xs)::O) H'->Q (u8 p) H'):kG G .list [u8 a] H Q:=by unfold kG;exact .inl ⟨_,xs,rfl,.inr (aZ.of e),al z h⟩
def FG {t t2 t1 t3 l1 l3:Addr}(h1:H t=some (wf [ul at_,u8 t1,u8 l1]))(h2:H t2=some (wf [ul at_,u8 t3,u8 l3]))(ea:ff R.K H 2 (u8 t1) (u8 t3) true)(eb:ff R.K H 2 (u8 l1) (u8 l3) true):ff R.K H 3 (u8 t) (u8 t2) true:=
 qH (n:=1) h1 h2 rfl λj x y e1 e2=>by
  rcases j with _|_|_|j
  .cases e1;cases e2;exact dO (t:="int") rfl
  .cases e1;cases e2;exact ea
  .cases e1;cases e2;exact eb
  .simp at e1
def eu {w p:Addr}(ro:Ro K R)(hk:4<=k)(z:Sep (bL R m l s b at_ ds::ay R s cs ws::ar R b x::bZ w d p lv at_ x cs ws O) H)
  (q:∀ H',Sep (bL R m l s b at_ ds::ay R s cs ws::ar R b x::bZ w d p lv at_ x cs ws O) H'->Q (.bl true) H'):aa tab R k 99 [u8 m,u8 w] H Q E:=by
 delta eX;have l60:=(cH z .k1).2.2.1;right;refine ae dw z .e rfl rfl ?_;left;refine vz ro nofun z (λt t1 l1 H1 z1=>?_);clear z;left;refine cT (t:="tuple") (Fw z1.at) rfl ?_;right;refine pv (t:="int") nofun rfl ?_;right;refine cT (t:="tuple") (Fw (by grind)) rfl ?_;right;refine cT (t:="list") (Dw (by grind)) rfl ?_;right;refine vx z1 (by grind) (λl2 H2 z2=>?_);right;have lx:x.ls.length=6:=rfl;refine Bv z2 (by grind) (by grind) (by rw[ce,ce];omega) (λl3 H3 z3=>?_);rw[<-dL]at z3;clear z1 z2;right;refine xC (xs:=(x.ls++cs).map ul) (by rw[ce,ci];omega) (λD ys H=>ys=(re ys.length true).map V.bl/\Sep (pt D (v6 ys)::pt l3 (v6 ((x.ls++cs).map ul))::pt t (wf [ul at_,u8 t1,u8 l1])::pt l1 (v6 (cs.map ul))::tu t1 (x.ls.map ul)::bL R m l s b at_ ds::ay R s cs ws::ar R b x::bZ w d p lv at_ x cs ws O) H) (λD ys H hI=>aY.of (hI.2.get .k1)) (λD hD=>⟨rfl,(z3.new (o:=v6 []) hD).sub (by ac_nf)⟩) (λD ys y H hy hI=>?_) (λD ys H hl hI=>?_)
 .obtain⟨e,hs⟩:=hI;have hyl:=(sn.mp hy).1;rw[ce,ci]at hyl;rw[im]at hy;obtain⟨i,hi,rfl⟩:=nb.mp hy;right;refine pv (t:="int") nofun rfl ?_;refine tO.mk hs.at nofun ⟨?_,hs.set rfl⟩;rw[ci,f8,List.replicate_succ']
  conv=>lhs;rw[e]
  simp[qr]
 obtain⟨e,hs⟩:=hI;clear z3;left;refine En (K:=R.K) (bs:=re ys.length true) rfl (e▸hs.at) ?_;rw[show(re ys.length true).all id=true by simp];have z4:Sep (pt t (wf [ul at_,u8 t1,u8 l1])::pt l1 (v6 (cs.map ul))::tu t1 (x.ls.map ul)::bL R m l s b at_ ds::ay R s cs ws::ar R b x::bZ w d p lv at_ x cs ws O) H:=hs.drop.drop;clear hs e;right;refine xU z4 (z4.get (.j2 (.j2 .k3))) (λp2 H5 g z5=>?_);rw[wQ]at z5;have z5:Sep (pt p2 (wf (x.ls.map ul))::pt t (wf [ul at_,u8 t1,u8 l1])::pt l1 (v6 (cs.map ul))::tu t1 (x.ls.map ul)::bL R m l s b at_ ds::ay R s cs ws::ar R b x::bZ w d p lv at_ x cs ws O) H5:=z5;clear z4;right;rename_i t6 H6 z6;refine vy (FG (by grind) z6.at (CO (ns:=x.ls) (by grind) (by grind)) (AN (cs:=cs) (by grind) (by grind))) (by decide) (λe=>Sep.ne (z6.sub (Γ':=[pt t6 (wf [ul at_,u8 p2,u8 p]),pt t (wf [ul at_,u8 t1,u8 l1])]) (by ac_nf)) e.symm) ?_;right;refine ae dw z6 (by symm) rfl rfl ?_;left;refine uh (O:=ar R b x::bZ w d p lv at_ x cs ws O) nofun (z6.sub (by ac_nf)) (λl7 H7 z7=>?_);right;refine vy (zI (ws:=ws) z7.at (by grind)) (by decide) (Sep.ne (z7.sub (Γ':=[pt l7 (v6 (ws.map ut)),pt lv (v6 (ws.map ut))]) (by ac_nf))) ?_;exact q H7 z7.drop
end
def set_same {l:List α}{a:α}(h:l[n]? =some a):l.set n a=l:=by
 apply List.ext_getElem?;intro i;rw[List.getElem?_set]
 split
 .rename_i e;subst e;rw[h]
  split
  .rfl
  .rename_i h2;exact absurd (sn.mp h).1 h2
 .rfl
def uO (h:ws[n]? =some "open"):half ws n=half ws (n+1):=by
 rw[<-oj h];obtain⟨hn,e⟩:=sn.mp h;refine(set_same ?_).symm;unfold half;rw[List.getElem?_append_right (by rw[db];omega),db,show n-min n ws.length=0 by omega,List.getElem?_replicate,if_pos nofun]
def b6 {A:az}:∀ {L O Δ:List az},ag A O Δ->ag A (L++O) (L++Δ)
 | [],_,_,h=>h
 |B::L,_,_,h=>.t (b6 h)
def j3 {α:Type}{f:α->az}{x:α}:∀ {l:List α},x ∈ l->∃ Δ,∀ O,ag (f x) (l.map f++O) (Δ++O)
 |y::l,h=>by
  rcases li.mp h with rfl|h
  .exact⟨l.map f,λO=>.e⟩
  .obtain⟨Δ,hp⟩:=j3 (f:=f) h;exact⟨f y::Δ,λO=>.t (hp O)⟩
def bP.app (h:bP O ss rs):bP (L++O) ss rs:=⟨h.1,h.2.1,λi r e=>by
 obtain⟨a,Δ,e2,p⟩:=h.2.2 i r e;exact⟨a,_,e2,b6 p⟩⟩
abbrev Hw (R:Rt)(p:Addr×Rw):az:=lG R p.1 p.2
abbrev iV (p:Addr×Rw):az:=tu p.1 p.2.tl
abbrev nA (p:Addr×Rw):V:=u8 p.1
def rL {L:List (Addr×Rw)}(h:L.map (·.2)=rs):bT R (L.reverse.map (Hw R)++O) (L.map nA) rs:=by
 subst h;refine⟨by simp,λi r e=>?_⟩;rw[im]at e;obtain⟨⟨a,r'⟩,g,rfl⟩:=nb.mp e;obtain⟨Δ,hp⟩:=j3 (f:=Hw R) (x:=(a,r')) (l:=L.reverse) (by have:=cr g;simpa using this);exact⟨a,_,by rw[im,g];rfl,hp O⟩
def yf {S:List (Addr×Rw)}(h:S.map (·.2)=rs)(ok:∀ r ∈ rs,Rw.ok r):bP (S.reverse.map iV++O) (S.map nA) rs:=by
 refine⟨by rw[<-h];simp,ok,λi r e=>?_⟩;subst h;rw[im]at e;obtain⟨⟨a,r'⟩,g,rfl⟩:=nb.mp e;obtain⟨Δ,hp⟩:=j3 (f:=iV) (x:=(a,r')) (l:=S.reverse) (by have:=cr g;simpa using this);exact⟨a,_,by rw[im,g];rfl,hp O⟩
section
variable {d p lv SP:Addr}{at_:Int}{ss:List V}{rs:List Rw}{x:Bx}{cs:List Int}{ws:List Str}
def C5 (ro:Ro K R)(hk:7<=k)(n0:1<=rs.length)(n1:rs.length<=24)(h0:0<=at_)(h1:at_<=rs.length)(hx:x.ok)(c0:1<=cs.length)(c60:cs.length<=60)(hc:dE cs)(hl:ws.length=cs.length)(hw:c5 ws)(hs:bP O ss rs)
  (z:Sep (ao d x::pt p (v6 (cs.map ul))::pt lv (v6 (ws.map ut))::pt SP (v6 ss)::O) H)
  (q:∀ m l s b ds Δ H',(∀ Γ',bT R (Δ++Γ') ds rs)->Sep (bL R m l s b at_ ds::ay R s cs ws::ar R b x::ao d x::pt p (v6 (cs.map ul))::pt lv (v6 (ws.map ut))::pt SP (v6 ss)::(Δ++O)) H'->Q (u8 m) H'):aa tab R k 97 [u8 SP,u8 p,u8 lv,u8 d,ul at_] H Q E:=by
 delta iK;right;rename_i l H1 z1;intro a dx g1 g2 g3;refine rZ ro nofun c0 c60 hc (g7 z1 g1 g2 g3) .e (λH2 z2=>⟨rfl,?_⟩);right;rw[<-hl]at z2;refine d9 (λj U H=>∃ v,U=[some (u8 SP),some (u8 p),some (u8 lv),some (u8 d),some (ul at_),some (u8 a),v,none]/\Sep (ay R a cs (half ws j)::ao d x::pt p (v6 (cs.map ul))::pt lv (v6 (ws.map ut))::pt SP (v6 ss)::O) H) ?_ ?_ ?_
 .refine⟨none,rfl,?_⟩;rw[DC];exact z2.sub (by ac_nf)
 .rintro j U H hj ⟨v,rfl,hs⟩;rw[pi,ce]at hj;have hj2:j<ws.length:=by omega
  have e1:ws[j]? =some ws[j]:=le hj2;generalize ws[j]=w at e1;have ix:kx (ws.map ut) (0+(j:Int))=some (ut w):=by
   refine a8 nofun ?_;rw[show(0+(j:Int)).toNat=j by omega,im,e1]
   rfl
  right;refine ba (by grind) ix ?_;right
  by_cases hw1:w="open"
  .subst hw1;refine aG (by decide+kernel) ?_;refine⟨_,rfl,?_⟩;rw[<-uO e1];exact hs
  .refine ak (by show(w =="open")=false;simpa using hw1) ?_;right;refine ae bA hs .e rfl rfl ?_;right;refine ba (by grind) ix ?_;right;refine xW (i:=0+(j:Int)) (j:=0+(j:Int)+1) ro nofun hs .e nofun nofun (by rw[yj nofun];omega) (hw w (cr e1)) (λH3 z3=>?_);refine⟨_,rfl,?_⟩;rw[show(0+(j:Int)+1-(0+(j:Int))).toNat=1 by omega,show(0+(j:Int)).toNat=j by omega,w9,oj e1]at z3;exact z3
 .rintro U H ⟨v,rfl,z3⟩;rw[pi,ce,<-hl,Ct]at z3;clear z z1 z2;obtain⟨xh,xt,xl,xw,xs,xm⟩:=x;walk_at "wd";intro b dx2 g1 g2 g3;refine x6 ro nofun hx (g7 z3 g1 g2 g3) (λH4 z4=>⟨rfl,?_⟩);generalize (⟨xh,xt,xl,xw,xs,xm⟩:Bx)=x at hx z4 q;right;have z5:Sep (ar R b x::ay R a cs ws::ao d x::pt p (v6 (cs.map ul))::pt lv (v6 (ws.map ut))::pt SP (v6 ss)::O) H4:=z4.sub (by ac_nf);refine xC (xs:=ss) (by have:=hs.1;omega) (λD ys H=>∃ L:List (Addr×Rw),ys=L.map nA/\L.map (·.2)=rs.take ys.length/\Sep (pt D (v6 ys)::ar R b x::ay R a cs ws::ao d x::pt p (v6 (cs.map ul))::pt lv (v6 (ws.map ut))::pt SP (v6 ss)::(L.reverse.map (Hw R)++O)) H) (λD ys H hI=>?_) (λD hD=>⟨[],rfl,rfl,z5.new (o:=v6 []) hD⟩) (λD ys y H hy hI=>?_) (λDE ys H hl2 hI=>?_)
  .obtain⟨L,_,_,hs⟩:=hI;exact aY.of (by grind)
  .obtain⟨L,e,e2,z6⟩:=hI;have hyl:=(sn.mp hy).1;have er:rs[ys.length]? =some (rs[ys.length]'(by have:=hs.1;omega)):=le _;generalize rs[ys.length]'(by have:=hs.1;omega)=r at er;obtain⟨t,Δ,e3,pp⟩:=hs.2.2 _ _ er;rw[hy]at e3;cases e3;right;refine vL r ro nofun (hs.2.1 _ (cr er)) (Sep.HD (z6.DW (.j2 (.j2 (.j2 (.t (b6 pp))))))  z6) (λde H7 z7=>?_);have z8:=(z7.pull (A:=pt D (v6 ys)) (by symm)).set (o':=v6 (ys++[u8 de])) rfl;refine tO.mk (z7.get (by symm)) (by have:=hs.1;omega) ⟨L++[(de,r)],by rw[e];simp[nA],?_,?_⟩
   .rw[dL,e2,ci,f8,take_succ,er]
    rfl
   .rw[List.reverse_append,dL,jp];show Sep (pt D _::ar R b x::ay R a cs ws::ao d x::pt p (v6 (cs.map ul))::pt lv (v6 (ws.map ut))::pt SP (v6 ss)::lG R de r::(L.reverse.map (Hw R)++O)) _;exact z8.sub (by ac_nf)
  obtain⟨L,rfl,e2,z6⟩:=hI;have e3:L.map (·.2)=rs:=by
   rw[e2,hl2,hs.1];exact List.take_of_length_le (pc _)
  have hrow:=rL (R:=R) (O:=O) e3;have hlen:=hrow.1;clear z3 z4 z5;right;intro m dx3 g1 g2 g3;refine k8 (l:=DE) (s:=a) (b:=b) (x:=x) (cs:=cs) (ws:=ws) ro nofun nofun nofun h0 nofun .e .k2 .k1 (bT.all hrow.more.more.more.more.more.more.more) (g7 z6 g1 g2 g3) (λl2 s2 b2 H7 z7=>⟨rfl,?_⟩);exact q m l2 s2 b2 (L.map nA) _ H7 (λ_=>rL e3) (z7.sub (by ac_nf))
end
def vf {cs:List Int}(h:bU wd x cs ws=.on r x' cs'):
  (r=0\/r=1)/\x'.w=x.w/\(r=0->0<=idx wd x/\idx wd x<ws.length/\idx wd x'=idx wd x+dir wd x/\dir wd x'=dir wd x):=
 have ⟨w,_,r,g⟩:=ql h
 ⟨r,w.1,λz=>⟨(g z).1.1,(g z).1.2,(g z).2⟩⟩
def AR {cs:List Int}{r:Rw}{n:Int}(ok:r.ok)(h:dr x cs ws r=.on n x' cs'):0<=n:=by
 cases r with
 |lg w=>
  have h:ofM (bU w x cs ws)=.on n x' cs':=h;cases e:bU w x cs ws with
  |no d c=>rw[e]at h;cases h
  |on r y ys=>
   rw[e]at h;cases h;rcases(vf e).1 with rfl|rfl<;>decide
 |hop m o=>
  cases h;have:=ok.1;cases o with
  |none=>show 0<=1+m;omega
  |some i=>
   show 0<=(if i=x.m then 1+m else 1)
   split<;>omega
 |sp s=>
  have h:iy (fq x cs ws s)=.on n x' cs':=h;cases e:fq x cs ws s with
  |on y ys=>rw[e]at h;cases h;decide
  |no d c=>rw[e]at h;cases h
  |nf b i=>rw[e]at h;cases h
def tN {cs:List Int}(h0:0<=at_)(h1:at_<=rs.length)(hn:∀ r ∈ rs,Rw.ok r):0<=(mS rs at_ x cs ws).at_/\(mS rs at_ x cs ws).at_<=rs.length/\((mS rs at_ x cs ws).w="on"\/((mS rs at_ x cs ws).w="end"\/(mS rs at_ x cs ws).w="stop")/\(mS rs at_ x cs ws).at_=at_/\(mS rs at_ x cs ws).x=x/\(mS rs at_ x cs ws).cs=cs):=by
 unfold mS;cases e:rs[at_.toNat]? with
 |none=>exact⟨h0,h1,.inr ⟨.inl rfl,rfl,rfl,rfl⟩⟩
 |some r=>
  have ok:=hn r (cr e);dsimp only;cases ho:dr x cs ws r with
  |no d c=>exact⟨h0,h1,.inr ⟨.inr rfl,rfl,rfl,rfl⟩⟩
  |nf b i=>exact⟨h0,h1,.inr ⟨.inr rfl,rfl,rfl,rfl⟩⟩
  |on n x' cs'=>
   have hn0:0<=n:=AR ok ho;refine⟨?_,?_,.inl rfl⟩
   .show 0<=min (at_+n) (rs.length:Int)
    omega
   .show min (at_+n) (rs.length:Int)<=rs.length
    omega
def JO {w:Str}:cJ (ut w) (ut w)=true:=by show(w ==w)=true;simp
structure fD where
 n:Nat
 at_:Int
 x:Bx
 cs:List Int
abbrev rN (rs:List Rw)(ws:List Str):Nat->Int->Bx->List Int->fD
 |0,at_,x,cs=>⟨0,at_,x,cs⟩
 |n+1,at_,x,cs=>if(mS rs at_ x cs ws).w="on" then⟨(rN rs ws n (mS rs at_ x cs ws).at_ (mS rs at_ x cs ws).x (mS rs at_ x cs ws).cs).n+1,(rN rs ws n (mS rs at_ x cs ws).at_ (mS rs at_ x cs ws).x (mS rs at_ x cs ws).cs).at_,(rN rs ws n (mS rs at_ x cs ws).at_ (mS rs at_ x cs ws).x (mS rs at_ x cs ws).cs).x,(rN rs ws n (mS rs at_ x cs ws).at_ (mS rs at_ x cs ws).x (mS rs at_ x cs ws).cs).cs⟩ else⟨0,at_,x,cs⟩
abbrev rW (rs:List Rw)(n:Nat)(r:fD):Str:=if r.at_=(rs.length:Int) then "end" else if n<=r.n then "bell" else "stop"
def jL {rs:List Rw}{ws:List Str}(ok:∀ r ∈ rs,Rw.ok r):∀ {n:Nat}{at_:Int}{x:Bx}{cs:List Int},0<=at_->at_<=rs.length->(rN rs ws n at_ x cs).n<=n/\0<=(rN rs ws n at_ x cs).at_/\(rN rs ws n at_ x cs).at_<=rs.length
 |0,at_,x,cs,h0,h1=>⟨pc _,h0,h1⟩
 |n+1,at_,x,cs,h0,h1=>by
  unfold rN
  split
  .obtain⟨g0,g1,_⟩:=tN (x:=x) (cs:=cs) (ws:=ws) h0 h1 ok;obtain⟨a,b,c⟩:=jL ok (n:=n) (x:=(mS rs at_ x cs ws).x) (cs:=(mS rs at_ x cs ws).cs) g0 g1;exact⟨Nat.succ_le_succ a,b,c⟩
  .exact⟨Nat.zero_le _,h0,h1⟩
section
variable {m l s b:Addr}{at_:Int}{ds:List V}{rs:List Rw}{x:Bx}{cs:List Int}{ws:List Str}
def rh (ro:Ro K R)(hk:12<=k)(h0:0<=at_)(h1:at_<=rs.length)(hok:∀ r ∈ rs,Rw.ok r) (hd:bT R O ds rs) (z:Sep (bL R m l s b at_ ds::ay R s cs ws::ar R b x::O) H)
  (q:∀ t H',Sep (pt t (wf [ut (rW rs n (rN rs ws n at_ x cs)),ul ((rN rs ws n at_ x cs).n:Int)])::bL R m l s b (rN rs ws n at_ x cs).at_ ds::ay R s (rN rs ws n at_ x cs).cs ws::ar R b (rN rs ws n at_ x cs).x::O) H'->Q (u8 t) H'):aa tab R k 42 [u8 m,ul (n:Int)] H Q E:=by
 delta cI;have e1:=hd.1;obtain⟨f0,f1,f2⟩:=jL (ws:=ws) (n:=n) (x:=x) (cs:=cs) hok h0 h1;generalize hF:rN rs ws n at_ x cs=F at q f0 f1 f2
 right;have out:∀ {D:Ends}{E:St->XK}{H':Hp},D.rt=Q->Sep (bL R m l s b F.at_ ds::ay R s F.cs ws::ar R b F.x::O) H'->wB (f9 2 cI.body) ⟨tab,R,aa tab R (k-1),true⟩ D E [some (u8 m),some (ul (n:Int)),some (ul (F.n:Int))] H':=λ{D E H'} hD z=>by
  rw[<-hD]at q;unfold rW at q;right;refine ae dw z .e rfl rfl ?_;left;refine sh nofun z .e ?_
  by_cases he:F.at_=ds.length
  .rw[decide_eq_true he];rw[if_pos nofun]at q;right;rename_i t H3 z3;exact q t H3 z3
  .rw[decide_eq_false he];rw[if_neg nofun]at q;right;refine aI (λg=>?_) (λg=>?_)
   .rw[if_pos nofun]at q;right;rename_i t H3 z3;exact q t H3 z3
   .rw[if_neg nofun]at q;right;rename_i t H3 z3;exact q t H3 z3
 refine⟨λμ U H=>∃ j:Nat,∃ at_ x cs,μ=n-j/\j<=n/\0<=at_/\at_<=(rs.length:Int)/\rN rs ws (n-j) at_ x cs=⟨F.n-j,F.at_,F.x,F.cs⟩/\j<=F.n/\U=[some (u8 m),some (ul (n:Int)),some (ul (j:Int))]/\Sep (bL R m l s b at_ ds::ay R s cs ws::ar R b x::O) H,⟨n,0,at_,x,cs,rfl,Nat.zero_le _,h0,h1,hF,Nat.zero_le _,rfl,z⟩,?_⟩;rintro μ U H ⟨j,at2,x2,cs2,rfl,hj,a0,a1,hr,hjF,rfl,z2⟩;right;refine aI (λg=>?_) (λg=>?_)
 .have ej:n-j=(n-(j+1))+1:=by omega
  rw[ej]at hr;unfold rN at hr;obtain⟨g0,g1,g2⟩:=tN (x:=x2) (cs:=cs2) (ws:=ws) a0 a1 hok;right;refine ae dw z2 .e rfl rfl ?_;left;refine A7 (rs:=rs) ro nofun a0 nofun hd z2 (λH3 z3=>?_);generalize hm:mS rs at2 x2 cs2 ws=M at hr z3 g0 g1 g2;obtain⟨word,at3,x3,cs3⟩:=M;dsimp only at hr z3 g0 g1 g2;right;rcases g2 with rfl|⟨hw,rfl,rfl,rfl⟩
  .rw[if_pos rfl]at hr;have r1:=congrArg fD.n hr;have r2:=congrArg fD.at_ hr;have r3:=congrArg fD.x hr;have r4:=congrArg fD.cs hr;dsimp only at r1 r2 r3 r4;refine aG (JO (w:="on")) ?_;refine⟨λU H=>∃ at_ x cs,0<=at_/\at_<=(rs.length:Int)/\rN rs ws (n-(j+1)) at_ x cs=⟨F.n-(j+1),F.at_,F.x,F.cs⟩/\U=[some (u8 m),some (ul (n:Int)),some (ul ((j+1:Nat):Int))]/\Sep (bL R m l s b at_ ds::ay R s cs ws::ar R b x::O) H,?_,?_⟩
   .rintro σ' H' ⟨a,y,c,b0,b1,b2,rfl,b4⟩;exact⟨n-(j+1),by omega,j+1,a,y,c,rfl,by omega,b0,b1,b2,by omega,rfl,b4⟩
   .right;refine⟨at3,x3,cs3,g0,g1,?_,rfl,z3⟩;generalize rN rs ws (n-(j+1)) at3 x3 cs3=G at r1 r2 r3 r4⊢;obtain⟨gn,ga,gx,gc⟩:=G;dsimp only at r1 r2 r3 r4;subst r2 r3 r4;rw[show gn=F.n-(j+1) by omega]
  .have hne:¬ (word="on"):=by rcases hw with rfl|rfl<;>decide+kernel
   rw[if_neg hne]at hr;have r1:=congrArg fD.n hr;have r2:=congrArg fD.at_ hr;have r3:=congrArg fD.x hr;have r4:=congrArg fD.cs hr;dsimp only at r1 r2 r3 r4;refine ak (by show(word =="on")=false;simpa using hne) ?_;have r2:at3=F.at_:=r2;have r3:x3=F.x:=r3;have r4:cs3=F.cs:=r4;subst r2 r3 r4;rw[show(j:Int)=(F.n:Int) by omega];exact out rfl z3
 .have ej:n-j=0:=by omega
  rw[ej]at hr;have r1:=congrArg fD.n hr;have r2:=congrArg fD.at_ hr;have r3:=congrArg fD.x hr;have r4:=congrArg fD.cs hr;have r1:0=F.n-j:=r1;have r2:at2=F.at_:=r2;have r3:x2=F.x:=r3;have r4:cs2=F.cs:=r4;subst r2 r3 r4;rw[show(j:Int)=(F.n:Int) by omega];refine ak rfl ?_;exact out rfl z2
end
def vp {cs:List Int}(hx:0<=x.l)(h:bU wd x cs ws=.on r x' cs'):0<=x'.l/\cs'.length=cs.length:=
 ⟨(ql h).1.2.1 hx,(ql h).2.1⟩
def gq {cs:List Int}{b:Bn}(hx:0<=x.l)(h:aV x cs b i=.on x' cs'):0<=x'.l/\cs'.length=cs.length:=by
 unfold aV at h
 by_cases e:aU b i=true
 .rw[if_pos e]at h;cases h;refine⟨?_,rfl⟩;cases b
  .exact hx
  .exact hx
  .have e:(decide (0<=i)&&decide (i<=1000000000))=true:=e;have e:0<=i/\i<=1000000000:=by simpa using e
   exact e.1
  .exact hx
  .exact hx
  .exact hx
 .rw[if_neg e]at h;cases h
def uo {cs:List Int}{s:Sp}(hx:0<=x.l)(h:fq x cs ws s=.on x' cs'):0<=x'.l/\cs'.length=cs.length:=by
 cases s with
 |set b i=>exact gq hx h
 |add b i=>exact gq hx h
 |take b c=>exact gq hx h
 |read b=>
  have h:(if ah ws "look" x.h=true then aV x cs b (gt cs x.h) else .no "look" x.h)=.on x' cs':=h
  by_cases e:ah ws "look" x.h=true
  .rw[if_pos e]at h;exact gq hx h
  .rw[if_neg e]at h;cases h
 |write b=>
  have h:(if el (ul (x.g b))=true then(if ah ws "put" x.t=true then .on x (cs.set x.t.toNat (x.g b)) else .no "put" x.t) else .nf b (x.g b))=qg.on x' cs':=h
  by_cases e:el (ul (x.g b))=true
  .rw[if_pos e]at h
   by_cases e2:ah ws "put" x.t=true
   .rw[if_pos e2]at h;cases h;exact⟨hx,length_set ..⟩
   .rw[if_neg e2]at h;cases h
  .rw[if_neg e]at h;cases h
def uG {cs:List Int}{r:Rw}{n:Int}(hx:0<=x.l)(h:dr x cs ws r=.on n x' cs'):0<=x'.l/\cs'.length=cs.length:=by
 cases r with
 |lg w=>
  have h:ofM (bU w x cs ws)=.on n x' cs':=h;cases e:bU w x cs ws with
  |no d c=>rw[e]at h;cases h
  |on r y ys=>
   rw[e]at h;cases h;exact vp hx e
 |hop m o=>cases h;exact⟨hx,rfl⟩
 |sp s=>
  have h:iy (fq x cs ws s)=.on n x' cs':=h;cases e:fq x cs ws s with
  |on y ys=>rw[e]at h;cases h;exact uo hx e
  |no d c=>rw[e]at h;cases h
  |nf b i=>rw[e]at h;cases h
def sQ {cs:List Int}(hx:0<=x.l):0<=(mS rs at_ x cs ws).x.l/\(mS rs at_ x cs ws).cs.length=cs.length:=by
 unfold mS;cases e:rs[at_.toNat]? with
 |none=>exact⟨hx,rfl⟩
 |some r=>
  dsimp only;cases ho:dr x cs ws r with
  |no d c=>exact⟨hx,rfl⟩
  |nf b i=>exact⟨hx,rfl⟩
  |on n x' cs'=>exact uG hx ho
def sG {rs:List Rw}{ws:List Str}:∀ {n:Nat}{at_:Int}{x:Bx}{cs:List Int},0<=x.l->0<=(rN rs ws n at_ x cs).x.l/\(rN rs ws n at_ x cs).cs.length=cs.length
 |0,at_,x,cs,h=>⟨h,rfl⟩
 |n+1,at_,x,cs,h=>by
  unfold rN
  split
  .obtain⟨g0,g1⟩:=sQ (rs:=rs) (at_:=at_) (cs:=cs) (ws:=ws) h;obtain⟨a,b⟩:=sG (n:=n) (at_:=(mS rs at_ x cs ws).at_) (cs:=(mS rs at_ x cs ws).cs) (ws:=ws) (rs:=rs) g0;exact⟨a,b.trans g1⟩
  .exact⟨h,rfl⟩
def sY {rs:List Rw}{ws:List Str}:∀ {m:Nat}{at_:Int}{x:Bx}{cs:List Int},rN rs ws (rN rs ws m at_ x cs).n at_ x cs=rN rs ws m at_ x cs
 |0,at_,x,cs=>rfl
 |m+1,at_,x,cs=>by
  by_cases e:(mS rs at_ x cs ws).w="on"
  .rw[rN,if_pos e];dsimp only;rw[rN,if_pos e,sY]
  .rw[rN,if_neg e]
   rfl
section
variable {w d p lv:Addr}{at_:Int}{x:Bx}{cs:List Int}{ws:List Str}
def uR (hk:1<=k)(z:Sep (bZ w d p lv at_ x cs ws O) H)(q:∀ w2 d2 p2 lv2 H',Sep (bZ w2 d2 p2 lv2 at_ x cs ws (bZ w d p lv at_ x cs ws O)) H'->Q (u8 w2) H'):aa tab R k 100 [u8 w] H Q E:=by
 delta eO;right;refine sP (kvs:=tJ.zip (x.ls.map ul)) z (z.get .k1) (λd2 H2 z2=>?_);have z2:Sep (ao d2 x::bZ w d p lv at_ x cs ws O) H2:=z2;right;rename_i p2 H3 z3 lv2 H4 z4 w2 H5 z5;exact q w2 d2 p2 lv2 H5 (z5.sub (by ac_nf))
end
def Sep.mv:∀ {L P Δ O:List az}{H:Hp},Sep (P++(Δ++(L++O))) H->Sep (P++(L++(Δ++O))) H
 | [],_,_,_,_,z=>z
 |A::L,P,Δ,O,H,z=>(Sep.mv (L:=L) (P:=A::P) (Δ:=Δ) (O:=O) (z.pull (b6 (b6 .e)))).push (b6 .e)
def wL {t t2:Addr}{w:Str}(h1:H t=some (wf [ut w,ul i]))(h2:H t2=some (wf [ut w,ul i])):ff R.K H 2 (u8 t) (u8 t2) true:=
 qH (n:=0) h1 h2 rfl λj x y f1 f2=>by
  rw[f1]at f2;cases f2;rcases j with _|_|j
  .cases f1;exact dO (t:="str") rfl
  .cases f1;exact dO (t:="int") rfl
  .simp at f1
def DX:¬ (Str.ofString "end")=Str.ofString "on":=by decide+kernel
def tm:¬ (Str.ofString "stop")=Str.ofString "on":=by decide+kernel
abbrev qU (x:Bx):Prop:=x.w=1\/x.w= -1
def G5 {b:Bn}(h:aU b i=true)(o:qU x):qU (x.p i b):=by
 cases b<;>first|exact o|skip
 have h:(i ==1||i == -1)=true:=h;have h:i=1\/i= -1:=by simpa using h
 exact h
def rH {cs:List Int}{b:Bn}(o:qU x)(h:aV x cs b i=.on x' cs'):qU x':=by
 unfold aV at h
 split at h
 .rename_i e;cases h;exact G5 e o
 .cases h
def C1 {cs:List Int}{s:Sp}(o:qU x)(h:fq x cs ws s=.on x' cs'):qU x':=by
 cases s with
 |set b i=>exact rH o h
 |add b i=>exact rH o h
 |take b c=>exact rH o h
 |read b=>
  have h:(if ah ws "look" x.h=true then aV x cs b (gt cs x.h) else .no "look" x.h)=.on x' cs':=h
  split at h
  .exact rH o h
  .cases h
 |write b=>
  have h:(if el (ul (x.g b))=true then(if ah ws "put" x.t=true then qg.on x (cs.set x.t.toNat (x.g b)) else .no "put" x.t) else .nf b (x.g b))=.on x' cs':=h
  split at h
  .split at h
   .cases h;exact o
   .cases h
  .cases h
abbrev Jo (N:Nat)(x:Bx):Rw->Nat
 | .lg w=>min 61 (if dir w x=1 then(N:Int)-idx w x else idx w x+1).toNat
 |_=>0
def Cp {N:Nat}{r:Rw}:Jo N x r<=61:=by
 cases r with
 |lg w=>exact Nat.min_le_left _ _
 |_=>exact Nat.zero_le _
abbrev u9 (rs:List Rw)(N:Nat)(at_:Int)(x:Bx):Nat:=match rs[at_.toNat]? with
 |none=>0
 |some r=>(rs.length-at_.toNat)*62+Jo N x r
def vK {N:Nat}:u9 rs N at_ x<=(rs.length-at_.toNat)*62+61:=by
 unfold u9
 split
 .exact Nat.zero_le _
 .have:=Cp (N:=N) (x:=x) (r:=‹Rw›)
  omega
def zY {w:Wd}(o:qU x):dir w x=1\/dir w x= -1:=by
 cases w<;>first|exact o|skip
 .show(if x.t<=x.h then(1:Int) else -1)=1\/(if x.t<=x.h then(1:Int) else -1)= -1
  split<;>simp
 .exact .inl rfl
def vF {cs:List Int}(o:qU x)(h0:0<=at_)(hok:∀ r ∈ rs,Rw.ok r) (hN:ws.length<=60) (h:(mS rs at_ x cs ws).w="on"):u9 rs ws.length (mS rs at_ x cs ws).at_ (mS rs at_ x cs ws).x<u9 rs ws.length at_ x/\qU (mS rs at_ x cs ws).x:=by
 unfold mS at h⊢;cases e:rs[at_.toNat]? with
 |none=>rw[e]at h;exact absurd h DX
 |some r=>
  rw[e]at h;dsimp only at h⊢;have hlt:=(sn.mp e).1;have far:∀ {n:Int}{x':Bx},1<=n->u9 rs ws.length (min (at_+n) (rs.length:Int)) x'<u9 rs ws.length at_ x:=λ{n x'} hn=>by
   have h1:=vK (rs:=rs) (N:=ws.length) (at_:=min (at_+n) (rs.length:Int)) (x:=x');have h2:(rs.length-at_.toNat)*62<=u9 rs ws.length at_ x:=by unfold u9;rw[e];dsimp only;omega
   by_cases g:(min (at_+n) (rs.length:Int)).toNat<rs.length
   .omega
   .have:u9 rs ws.length (min (at_+n) (rs.length:Int)) x'=0:=by unfold u9;rw[List.getElem?_eq_none nofun]
    omega
  cases ho:dr x cs ws r with
  |no d c=>rw[ho]at h;exact absurd h tm
  |nf b i=>rw[ho]at h;exact absurd h tm
  |on n x' cs'=>
   dsimp only;cases r with
   |sp s=>
    have ho:iy (fq x cs ws s)=.on n x' cs':=ho;cases e2:fq x cs ws s with
    |on y ys=>rw[e2]at ho;cases ho;exact⟨far (by decide),C1 o e2⟩
    |no d c=>rw[e2]at ho;cases ho
    |nf b i=>rw[e2]at ho;cases ho
   |hop m oo=>
    have ok:=hok _ (cr e);have:1<=C9 m oo x.m:=by
     have h1:=ok.1.1;cases oo with
     |none=>show 1<=1+m;omega
     |some i=>show 1<=(if i=x.m then 1+m else 1);split<;>omega
    cases ho;exact⟨far this,o⟩
   |lg w=>
    have ho:ofM (bU w x cs ws)=.on n x' cs':=ho;cases e2:bU w x cs ws with
    |no d c=>rw[e2]at ho;cases ho
    |on r2 y ys=>
     rw[e2]at ho;cases ho;obtain⟨g1,g2,g3⟩:=vf e2;have ow:qU x':=by unfold qU;rw[g2];exact o
     rcases g1 with rfl|rfl
     .obtain⟨i0,i1,i2,i3⟩:=g3 rfl;refine⟨?_,ow⟩;rw[show min (at_+0) (rs.length:Int)=at_ by omega];unfold u9;rw[e];show _+min 61 (if dir w x'=1 then(ws.length:Int)-idx w x' else idx w x'+1).toNat<_+min 61 (if dir w x=1 then(ws.length:Int)-idx w x else idx w x+1).toNat;rw[i3,i2];rcases zY (w:=w) o with d|d
      .rw[d,if_pos rfl,if_pos rfl];omega
      .rw[d,if_neg (by decide),if_neg (by decide)];omega
     .exact⟨far (by decide),ow⟩
def xo {rs:List Rw}{ws:List Str}(hok:∀ r ∈ rs,Rw.ok r) (hN:ws.length<=60):∀ {n:Nat}{at_:Int}{x:Bx}{cs:List Int},qU x->0<=at_->at_<=rs.length->(rN rs ws n at_ x cs).n<=u9 rs ws.length at_ x/\qU (rN rs ws n at_ x cs).x
 |0,at_,x,cs,o,h0,h1=>⟨Nat.zero_le _,o⟩
 |n+1,at_,x,cs,o,h0,h1=>by
  unfold rN
  by_cases h:(mS rs at_ x cs ws).w="on"
  .rw[if_pos h];obtain⟨p1,p2⟩:=vF (cs:=cs) o h0 hok hN h;obtain⟨g0,g1,_⟩:=tN (x:=x) (cs:=cs) (ws:=ws) h0 h1 hok;obtain⟨r1,r2⟩:=xo hok hN (n:=n) (cs:=(mS rs at_ x cs ws).cs) p2 g0 g1;exact⟨by show _+1<=_;omega,r2⟩
  .rw[if_neg h];exact⟨Nat.zero_le _,o⟩
def DA {cs:List Int}(hok:∀ r ∈ rs,Rw.ok r) (hN:ws.length<=60) (n1:rs.length<=24) (o:qU x) (h0:0<=at_) (h1:at_<=rs.length):(rN rs ws n at_ x cs).n<=1549:=by
 have h:=(xo (n:=n) (cs:=cs) hok hN o h0 h1).1;have h2:=vK (rs:=rs) (N:=ws.length) (at_:=at_) (x:=x);have:(rs.length-at_.toNat)*62<=24*62:=Nat.mul_le_mul_right _ nofun
 omega
def pC {rs:List Rw}{ws:List Str}:∀ {n:Nat}{at_:Int}{x:Bx}{cs:List Int},(rN rs ws n at_ x cs).n<n->(mS rs (rN rs ws n at_ x cs).at_ (rN rs ws n at_ x cs).x (rN rs ws n at_ x cs).cs ws).w≠"on"
 |0,at_,x,cs,h=>absurd h nofun
 |n+1,at_,x,cs,h=>by
  unfold rN at h⊢
  by_cases g:(mS rs at_ x cs ws).w="on"
  .rw[if_pos g]at h⊢;exact pC (n:=n) (by have h:_+1<n+1:=h;omega)
  .rw[if_neg g]at h⊢;exact g
section
variable {w d p lv SP:Addr}{at_:Int}{ss:List V}{rs:List Rw}{x:Bx}{cs:List Int}{ws:List Str}
def rV (hk:5<=k)(h0:0<=at_)(h1:at_<=rs.length)(hx:0<=x.l)(hl:cs.length=ws.length)(hs:bP O ss rs)(z:Sep (bZ w d p lv at_ x cs ws (pt SP (v6 ss)::O)) H)
  (q:∀ H',Sep (bZ w d p lv (rN rs ws n at_ x cs).at_ (rN rs ws n at_ x cs).x (rN rs ws n at_ x cs).cs ws (pt SP (v6 ss)::O)) H'->Q (ul ((rN rs ws n at_ x cs).n:Int)) H'):aa tab R k 102 [u8 SP,u8 w,ul (n:Int)] H Q E:=by
 have e1:=hs.1;have hok:=hs.2.1;obtain⟨f0,f1,f2⟩:=jL (ws:=ws) (n:=n) (x:=x) (cs:=cs) hok h0 h1;generalize hF:rN rs ws n at_ x cs=F at q f0 f1 f2
 delta iD;right;refine⟨λμ U H=>∃ j:Nat,∃ at_ x cs,μ=n-j/\j<=n/\0<=at_/\at_<=(rs.length:Int)/\0<=x.l/\cs.length=ws.length/\rN rs ws (n-j) at_ x cs=⟨F.n-j,F.at_,F.x,F.cs⟩/\j<=F.n/\U=[some (u8 SP),some (u8 w),some (ul (n:Int)),some (ul (j:Int))]/\Sep (bZ w d p lv at_ x cs ws (pt SP (v6 ss)::O)) H,⟨n,0,at_,x,cs,rfl,Nat.zero_le _,h0,h1,hx,hl,hF,Nat.zero_le _,rfl,z⟩,?_⟩;rintro μ U H ⟨j,at2,x2,cs2,rfl,hj,a0,a1,hx2,hl2,hr,hjF,rfl,z2⟩;right;refine aI (λg=>?_) (λg=>?_)
 .have ej:n-j=(n-(j+1))+1:=by omega
  rw[ej]at hr;unfold rN at hr;obtain⟨g0,g1,g2⟩:=tN (x:=x2) (cs:=cs2) (ws:=ws) a0 a1 hok;obtain⟨g3,g4⟩:=sQ (rs:=rs) (at_:=at2) (cs:=cs2) (ws:=ws) hx2;right;refine CW (rs:=rs) nofun a0 nofun hx2 hl2 hs z2 (λH3 z3=>?_);generalize hm:mS rs at2 x2 cs2 ws=M at hr z3 g0 g1 g2 g3 g4;obtain⟨word,at3,x3,cs3⟩:=M;dsimp only at hr z3 g0 g1 g2 g3 g4;right;rcases g2 with rfl|⟨hw,rfl,rfl,rfl⟩
  .rw[if_pos rfl]at hr;have r1:=congrArg fD.n hr;have r2:=congrArg fD.at_ hr;have r3:=congrArg fD.x hr;have r4:=congrArg fD.cs hr;dsimp only at r1 r2 r3 r4;refine aG (JO (w:="on")) ?_;refine⟨λU H=>∃ m',m'<n-j/\_,λ_ _ h=>h,?_⟩;right;refine⟨n-(j+1),by omega,j+1,at3,x3,cs3,rfl,by omega,g0,g1,g3,g4.trans hl2,?_,by omega,?_,z3⟩
   .generalize rN rs ws (n-(j+1)) at3 x3 cs3=G at r1 r2 r3 r4⊢;obtain⟨gn,ga,gx,gc⟩:=G;dsimp only at r1 r2 r3 r4;subst r2 r3 r4;rw[show gn=F.n-(j+1) by omega]
   .rfl
  .have hne:¬ (word="on"):=by rcases hw with rfl|rfl<;>decide+kernel
   rw[if_neg hne]at hr;have r1:0=F.n-j:=congrArg fD.n hr;have r2:=congrArg fD.at_ hr;have r3:=congrArg fD.x hr;have r4:=congrArg fD.cs hr;dsimp only at r2 r3 r4;have e:cJ (ut word) (ut "on")=false:=by show(word =="on")=false;simpa using hne
   refine ak e ?_;subst r2 r3 r4;right;rw[show(j:Int)=(F.n:Int) by omega];exact q H3 z3
 .refine ak rfl ?_;have ej:n-j=0:=by omega
  rw[ej]at hr;have r1:0=F.n-j:=congrArg fD.n hr;have r2:=congrArg fD.at_ hr;have r3:=congrArg fD.x hr;have r4:=congrArg fD.cs hr;unfold rN at r2 r3 r4;dsimp only at r2 r3 r4;subst r2 r3 r4;right;rw[show(j:Int)=(F.n:Int) by omega];exact q H z2
end
def m8 {cs:List Int}(h:(mS rs at_ x cs ws).w≠"on"):∀ c,rN rs ws c at_ x cs=⟨0,at_,x,cs⟩
 |0=>rfl
 |c+1=>by rw[rN,if_neg h]
def tE {rs:List Rw}{ws:List Str}{c:Nat}:∀ {a:Nat}{at_:Int}{x:Bx}{cs:List Int},(rN rs ws (a+c) at_ x cs).at_=(rN rs ws c (rN rs ws a at_ x cs).at_ (rN rs ws a at_ x cs).x (rN rs ws a at_ x cs).cs).at_/\(rN rs ws (a+c) at_ x cs).x=(rN rs ws c (rN rs ws a at_ x cs).at_ (rN rs ws a at_ x cs).x (rN rs ws a at_ x cs).cs).x/\(rN rs ws (a+c) at_ x cs).cs=(rN rs ws c (rN rs ws a at_ x cs).at_ (rN rs ws a at_ x cs).x (rN rs ws a at_ x cs).cs).cs
 |0,at_,x,cs=>by rw[Nat.zero_add];exact⟨rfl,rfl,rfl⟩
 |a+1,at_,x,cs=>by
  rw[show a+1+c=(a+c)+1 by omega]
  by_cases h:(mS rs at_ x cs ws).w="on"
  .rw[rN,if_pos h,rN,if_pos h];exact tE (a:=a)
  .rw[m8 h,m8 h];dsimp only;rw[m8 h];exact⟨rfl,rfl,rfl⟩
def zL {N c:Nat}{cs:List Int}(h:(rN rs ws N at_ x cs).n<N)(hc:(rN rs ws N at_ x cs).n<=c):(rN rs ws c at_ x cs).at_=(rN rs ws N at_ x cs).at_/\(rN rs ws c at_ x cs).x=(rN rs ws N at_ x cs).x/\(rN rs ws c at_ x cs).cs=(rN rs ws N at_ x cs).cs:=by
 have hs:=pC h;have e:=sY (rs:=rs) (ws:=ws) (m:=N) (at_:=at_) (x:=x) (cs:=cs);have z:=tE (rs:=rs) (ws:=ws) (a:=(rN rs ws N at_ x cs).n) (c:=c-(rN rs ws N at_ x cs).n) (at_:=at_) (x:=x) (cs:=cs);rw[show(rN rs ws N at_ x cs).n+(c-(rN rs ws N at_ x cs).n)=c by omega,e,m8 hs]at z;exact z
def Fm (h0:0<=r)(h1:r<8):∃ wd:Wd,kx [ut "copy",ut "fill",ut "seek",ut "match",ut "shift",ut "turn",ut "shift",ut "copy"] r=some (ut wd.s):=by
 have:r=0\/r=1\/r=2\/r=3\/r=4\/r=5\/r=6\/r=7:=by omega
 rcases this with rfl|rfl|rfl|rfl|rfl|rfl|rfl|rfl
 .exact⟨.copy,rfl⟩
 .exact⟨.fill,rfl⟩
 .exact⟨.seek,rfl⟩
 .exact⟨.mtch,rfl⟩
 .exact⟨.shift,rfl⟩
 .exact⟨.turn,rfl⟩
 .exact⟨.shift,rfl⟩
 .exact⟨.copy,rfl⟩
def CI (h0:0<=r)(h1:r<2):∃ b:Bn,kx [ut "here",ut "there"] r=some (ut b.nm):=by
 have:r=0\/r=1:=by omega
 rcases this with rfl|rfl
 .exact⟨.h,rfl⟩
 .exact⟨.t,rfl⟩
def Ic {a b c d e:V}(ha:P a)(hb:P b)(hc:P c)(hd:P d)(he:P e):∀ v ∈ [a,b,c,d,e],P v:=λv hv=>by
 simp only[li,not_mem_nil,or_false]at hv;rcases hv with rfl|rfl|rfl|rfl|rfl<;>assumption
section
variable {h SP:Addr}{m:Int}
def uy (hk:2<=k)(hm:m<=1099000000000)(z:Sep (hand h m::O) H)
  (q:∀ SP (S:List (Addr×Rw)) H',S.length=24->(∀ r ∈ S.map (·.2),Rw.ok r)->Sep (pt SP (v6 (S.map nA))::hand h (m+80)::(S.reverse.map iV++O)) H'->Q (u8 SP) H'):aa tab R k 101 [u8 h] H Q E:=by
 delta iw;right;rename_i SP H1 z1;refine d9 (λj U H=>∃ u2 u3 u4,U=[some (u8 h),some (u8 SP),u2,u3,u4]/\∃ S:List (Addr×Rw),S.length=3*j/\(∀ r ∈ S.map (·.2),Rw.ok r)/\Sep (pt SP (v6 (S.map nA))::hand h (m+10*(j:Int))::(S.reverse.map iV++O)) H) ⟨_,_,_,rfl,[],rfl,λr hr=>(by cases hr),?_⟩ (λj U H hj hI=>?_) (λU H hI=>?_)
 .rw[show m+10*((0:Nat):Int)=m by omega];exact z1
 .obtain⟨u2,u3,u4,rfl,S,hS,ok,z2⟩:=hI;have hj:j<8:=hj;clear z z1;walk_at "gd";rename_i ra Ha a0 a1 za rb Hb b0 b1 zb p Hc zc rd Hd e0 e1 zd;rw[show(10:Int) ^ Int.toNat 9=1000000000 by decide]at zd;obtain⟨v,ev,i,rfl,i0,i1⟩:=wj (xs:=[ul 60,ul 60,ul ra,ul (1000000000-rb),ul 59]) (P:=inR 0 1000000000) (r:=rd) e0 (by simpa using e1) (Ic (.mk nofun nofun) (.mk nofun nofun) (.mk nofun nofun) (.mk nofun nofun) (.mk nofun nofun));refine ba (zd.get .k1) ev ?_;have z3:=(zd.pull .k1).drop;clear za zb zc zd z2;have z3:=bD (n:=m+10*(j:Int)+3) z3 nofun;walk_at "gd";rename_i p2 Hf zf rg Hg g0 g1 zg;obtain⟨bx,eb⟩:=CI g0 g1;refine ba (zg.get .k1) eb ?_;have z4:=(zg.pull .k1).drop;clear z3 zf zg;left;refine⟨SP,_,rfl,z4.get .k1,?_⟩;walk_at "gd";rename_i rc Hh c0 c1 zh p3 Hi zi rk Hk k0 k1 zk;obtain⟨v,ev,i2,rfl,i20,i21⟩:=wj (xs:=[ul 0,ul 59,ul rc,ul 30]) (P:=inR 0 1000000000) (r:=rk) k0 (by simpa using k1) (JT (.mk nofun nofun) (.mk nofun nofun) (.mk nofun nofun) (.mk nofun nofun));refine ba (zk.get .k1) ev ?_;have z5:=(zk.pull .k1).drop;clear z4 zh zi zk;have z5:=bD (n:=m+10*(j:Int)+6) z5 nofun;left;refine g9 z5 (by show 3<=10000;omega) (λt1 Hl z6=>?_);have z6:Sep (iV (t1,.sp (.set bx i2))::hand h (m+10*(j:Int)+6)::pt SP (v6 (S.map nA))::(S.reverse.map iV++O)) Hl:=z6.toT;left;refine⟨_,z6.get .k2,wJ z6 .k2 (by rw[ce];omega) (λHm z7=>?_)⟩;left;refine⟨SP,_,rfl,z7.get .k2,?_⟩;left;refine g9 z7 (by show 3<=10000;omega) (λt2 Hn z8=>?_);have z8:Sep (iV (t2,.sp (.set .l i))::iV (t1,.sp (.set bx i2))::hand h (m+10*(j:Int)+6)::pt SP (v6 (S.map nA++[u8 t1]))::(S.reverse.map iV++O)) Hn:=z8.toT;left;refine⟨_,z8.get .k3,wJ z8 .k3 (by rw[ci,ce];simp;omega) (λHo z9=>?_)⟩;left;refine⟨SP,_,rfl,z9.get .k3,?_⟩;have z10:Sep (hand h (m+10*(j:Int)+6)::pt SP (v6 (S.map nA++[u8 t1]++[u8 t2]))::iV (t2,.sp (.set .l i))::iV (t1,.sp (.set bx i2))::(S.reverse.map iV++O)) Ho:=z9.sub (.cons .k2 (.cons .k2 (.cons .e (.cons .e .refl))));clear z5 z6 z7 z8 z9;walk_at "gd";rename_i p4 Hp zp rq Hq q0 q1 zq;obtain⟨wd,ew⟩:=Fm q0 q1;refine ba (zq.get .k1) ew ?_;have z11:=(zq.pull .k1).drop;clear zp zq z10;left;refine g9 z11 (by show 1<=10000;omega) (λt3 Hr z12=>?_);have z12:Sep (iV (t3,.lg wd)::hand h (m+10*(j:Int)+6+1)::pt SP (v6 (S.map nA++[u8 t1]++[u8 t2]))::iV (t2,.sp (.set .l i))::iV (t1,.sp (.set bx i2))::(S.reverse.map iV++O)) Hr:=z12.toT;left;refine⟨_,z12.get .k2,wJ z12 .k2 (by rw[ci,ci,ce];simp;omega) (λHs z13=>?_)⟩;left;refine⟨_,_,_,rfl,S++[(t1,.sp (.set bx i2)),(t2,.sp (.set .l i)),(t3,.lg wd)],by rw[ci,hS];simp;omega,λr hr=>?_,?_⟩
  .rw[dL]at hr;rcases mem_append.mp hr with hr|hr
   .exact ok r hr
   .simp only[map_cons,List.map_nil,li,not_mem_nil,or_false]at hr;rcases hr with rfl|rfl|rfl
    .exact⟨by omega,by omega⟩
    .exact⟨by omega,by omega⟩
    .exact True.intro
  .rw[dL,List.reverse_append,dL,jp];have z14:=bD (n:=m+10*((j+1:Nat):Int)) (z13.pull .k1) nofun;have z15:Sep (pt SP (v6 (S.map nA++[u8 t1]++[u8 t2]++[u8 t3]))::hand h (m+10*((j+1:Nat):Int))::iV (t3,.lg wd)::iV (t2,.sp (.set .l i))::iV (t1,.sp (.set bx i2))::(S.reverse.map iV++O)) Hs:=z14.sub (.cons .k2 (.cons .e (.cons .e .refl)));rw[jp,jp]at z15;exact z15
 .obtain⟨u2,u3,u4,rfl,S,hS,ok,z2⟩:=hI;right;exact q SP S H (by rw[hS];rfl) ok z2
end
section
variable {m l s b:Addr}{at_:Int}{ds:List V}{rs:List Rw}{x:Bx}{cs:List Int}{ws:List Str}
def lH (ro:Ro K R)(hk:7<=k)(n0:1<=rs.length)(n1:rs.length<=24)(h0:0<=at_)(h1:at_<=rs.length)(hd:bT R O ds rs)(z:Sep (bL R m l s b at_ ds::ay R s cs ws::ar R b x::O) H)
  (q:∀ m2 l2 s2 b2 H',Sep (bL R m2 l2 s2 b2 at_ ds::ay R s2 cs ws::ar R b2 x::bL R m l s b at_ ds::ay R s cs ws::ar R b x::O) H'->Q (u8 m2) H'):aa tab R k 47 [u8 m] H Q E:=by
 delta cO;have e1:=hd.1;obtain⟨dx,z1⟩:=rm z;clear z;right;intro m2 dx2 g1 g2 g3;refine k8 (l:=l) (x:=x) (cs:=cs) (ws:=ws) ro nofun nofun nofun h0 nofun .k2 .k3 (.t .k3) hd.more.more.more.more.more.all (g7 z1 g1 g2 g3) (λl2 s2 b2 H2 z2=>⟨rfl,?_⟩);exact q m2 l2 s2 b2 H2 ((vq (z2.sub (Γ':=pt m (wn (R.cad 16) dx [("deeds",u8 l),("store",u8 s),("boxes",u8 b),("at",ul at_)])::pt dx (.own m)::pt l (v6 ds)::bL R m2 l2 s2 b2 at_ ds::ay R s2 cs ws::ar R b2 x::ay R s cs ws::ar R b x::O) (by ac_nf))).sub (by ac_nf))
end
abbrev CK:kP->kP
 | .cons (.for _ _ b) _=>b
 |_=>.nil
def bG (h:bT R O ds rs):bT R (L++O) ds rs:=⟨h.1,λi r e=>by
 obtain⟨a,Δ,e2,p⟩:=h.2 i r e;exact⟨a,_,e2,b6 p⟩⟩
section
variable {h SP CP LV:Addr}{m:Int}{S:List (Addr×Rw)}{cs:List Int}{ws:List Str}
noncomputable abbrev Ae (R:Rt)(mo lo so bo w d CP LV w2 d2 p2 lv2 SP:Addr)(ds ss:List V)(ws:List Str)(F G:fD)(O:List az):List az:=bL R mo lo so bo G.at_ ds::ay R so G.cs ws::ar R bo G.x::bZ w2 d2 p2 lv2 G.at_ G.x G.cs ws (bZ w d CP LV F.at_ F.x F.cs ws (pt SP (v6 ss)::O))
noncomputable abbrev DM (R:Rt)(m l s b:Addr)(ds:List V)(ws:List Str)(G:fD):List az:=[bL R m l s b G.at_ ds,ay R s G.cs ws,ar R b G.x]
abbrev xK (R:Rt)(mo lo so bo w d CP LV w2 d2 p2 lv2 SP h m1 du:Addr)(sc:V)(ds ss:List V)(rs:List Rw)(ws:List Str)(x:Bx)(cs:List Int)(F:fD)(s t0:Nat)(O:List az)(j:Nat)(U:St)(H:Hp):Prop:=∃ th u14 u15 u16 X,U=[some sc,some (u8 h),some (u8 SP),some (u8 CP),some (u8 LV),some (u8 d),some (u8 w),some (u8 w2),some (u8 m1),some (u8 mo),some (ul F.n),some (u8 du),some (ul s),some (u8 th),u14,u15,u16]/\
 ((j<=t0/\X=[]/\th=mo)\/(t0<j/\∃ l3 s3 b3,X=DM R th l3 s3 b3 ds ws (rN rs ws ((t0+1)*s) 0 x cs)))/\Sep (Ae R mo lo so bo w d CP LV w2 d2 p2 lv2 SP ds ss ws F (rN rs ws (j*s) 0 x cs) (X++O)) H
def DT {E:St->XK}{mo lo so bo w w2 d2 p2 lv2 m1 du:Addr}{sc:V}{F:fD}{s j qn:Nat}{U:St}(ro:Ro K R)(hk:14<=k)(hrl:rs.length=24)(ok:∀ r ∈ rs,Rw.ok r) (hx:0<=x.l) (hcw:cs.length=ws.length) (hs:bP O ss rs) (hd:bT R O ds rs) (s1:1<=s) (s30:s<=30) (hq:qn<=1549) (eq:(F.n:Int) / (s:Int)=(qn:Int)) (hj:j<=qn) (hI:xK R mo lo so bo w d CP LV w2 d2 p2 lv2 SP h m1 du sc ds ss rs ws x cs F s (qn / 2) O j U H) (q:∀ σ' H',xK R mo lo so bo w d CP LV w2 d2 p2 lv2 SP h m1 du sc ds ss rs ws x cs F s (qn / 2) O (j+1) σ' H'->D.nx σ' H'):
  wB (CK (f9 17 jz.body)) ⟨tab,R,aa tab R (k-1),true⟩ D E (U.set 14 (some (ul (0+(j:Int))))) H:=by
 obtain⟨th,u14,u15,u16,X,rfl,hX,z⟩:=hI;have hjs:(j+1)*s=j*s+s:=by rw[Nat.add_mul,Nat.one_mul]
 obtain⟨e1,e2,e3⟩:=tE (rs:=rs) (ws:=ws) (a:=j*s) (c:=s) (at_:=0) (x:=x) (cs:=cs);obtain⟨-,ga,gb⟩:=jL (ws:=ws) (n:=j*s) (x:=x) (cs:=cs) ok (show(0:Int)<=0 by omega) nofun;obtain⟨gk,gl⟩:=sG (rs:=rs) (ws:=ws) (n:=j*s) (at_:=0) (cs:=cs) hx;rw[<-hjs]at e1 e2 e3;obtain⟨G',hG'⟩:∃ G',rN rs ws ((j+1)*s) 0 x cs=G':=⟨_,rfl⟩;obtain⟨-,ga',gb'⟩:=jL (ws:=ws) (n:=(j+1)*s) (x:=x) (cs:=cs) ok (show(0:Int)<=0 by omega) nofun;rw[hG']at e1 e2 e3 ga' gb';generalize rN rs ws (j*s) 0 x cs=G at z e1 e2 e3 ga gb gk gl;have z1:Sep (bZ w2 d2 p2 lv2 G.at_ G.x G.cs ws (pt SP (v6 ss)::([bL R mo lo so bo G.at_ ds,ay R so G.cs ws,ar R bo G.x,pt w (v6 [ul F.at_,u8 d,u8 CP,u8 LV]),ao d F.x,pt CP (v6 (F.cs.map ul)),pt LV (v6 (ws.map ut))]++(X++O)))) H:=z.sub (.cons .k3 (.cons .k3 (.cons .k3 (.cons .k3 (.cons (.j2 (.j2 .k3)) .refl)))));left;refine⟨rfl,?_⟩;left;refine rV (k:=k-1) (n:=s) (rs:=rs) nofun ga gb gk (gl.trans hcw) (bP.app (L:=[_,_,_,_,_,_,_]) (bP.app hs)) z1 (λH1 z2=>?_);clear z z1;have z3:Sep (bL R mo lo so bo G.at_ ds::ay R so G.cs ws::ar R bo G.x::bZ w2 d2 p2 lv2 (rN rs ws s G.at_ G.x G.cs).at_ (rN rs ws s G.at_ G.x G.cs).x (rN rs ws s G.at_ G.x G.cs).cs ws (bZ w d CP LV F.at_ F.x F.cs ws (pt SP (v6 ss)::(X++O)))) H1:=z2.sub (.cons (.j2 (.j2 .k1)) (.cons (.j2 (.j2 .k1)) (.cons (.j2 (.j2 .k1)) (.cons .e (.cons .e (.cons .e (.cons .e (.cons .k1 (.cons .k1 (.cons .k1 (.cons .k1 .refl)))))))))));clear z2;obtain⟨Ee,hE⟩:∃ Ee,rN rs ws s G.at_ G.x G.cs=Ee:=⟨_,rfl⟩;rw[hE]at z3 e1 e2 e3⊢
 -- the third machine
 have fin:∀ {H:Hp}{wd:V},Sep (Ae R mo lo so bo w d CP LV w2 d2 p2 lv2 SP ds ss ws F G' (X++O)) H->wB (f9 4 (CK (f9 17 jz.body))) ⟨tab,R,aa tab R (k-1),true⟩ D E [some sc,some (u8 h),some (u8 SP),some (u8 CP),some (u8 LV),some (u8 d),some (u8 w),some (u8 w2),some (u8 m1),some (u8 mo),some (ul F.n),some (u8 du),some (ul s),some (u8 th),some (ul (0+(j:Int))),some (ul Ee.n),some wd] H:=by
  intro H wd z;right;rw[eq];refine ax (λg=>?_) (λg=>?_)
  .right;refine ae dw z .e rfl rfl ?_;left;refine lH (k:=k-1) ro nofun nofun nofun ga' gb' (bG (L:=[_,_,_,_,_,_,_,_,_]) (bG hd)) z (λm2 l2 s2 b2 H2 z2=>?_);left;have ht:j=qn / 2:=by omega
   refine q _ _ ⟨m2,_,_,_,DM R m2 l2 s2 b2 ds ws G',rfl,.inr ⟨by omega,l2,s2,b2,by rw[<-ht,hG']⟩,?_⟩;rw[hG'];have z3:Sep ([]++(DM R m2 l2 s2 b2 ds ws G'++(Ae R mo lo so bo w d CP LV w2 d2 p2 lv2 SP ds ss ws F G' []++(X++O)))) H2:=z2;have z4:=Sep.mv z3;have z5:Sep (Ae R mo lo so bo w d CP LV w2 d2 p2 lv2 SP ds ss ws F G' (DM R m2 l2 s2 b2 ds ws G'++(X++O))) H2:=z4;have hX0:X=[]:=by
    rcases hX with⟨_,e,_⟩|⟨h,_⟩
    .exact e
    .omega
   rw[hX0]at z5;exact z5
  .left;refine q _ _ ⟨th,_,_,_,X,rfl,?_,by rw[hG'];exact z⟩;rcases hX with⟨h1,h2,h3⟩|⟨h1,h2⟩
   .exact .inl ⟨by omega,h2,h3⟩
   .exact .inr ⟨by omega,h2⟩
 have mid:∀ {H:Hp}{wd:Str},wd=rW rs s Ee->Sep (bL R mo lo so bo G.at_ ds::ay R so G.cs ws::ar R bo G.x::bZ w2 d2 p2 lv2 Ee.at_ Ee.x Ee.cs ws (bZ w d CP LV F.at_ F.x F.cs ws (pt SP (v6 ss)::(X++O)))) H->wB (f9 3 (CK (f9 17 jz.body))) ⟨tab,R,aa tab R (k-1),true⟩ D E [some sc,some (u8 h),some (u8 SP),some (u8 CP),some (u8 LV),some (u8 d),some (u8 w),some (u8 w2),some (u8 m1),some (u8 mo),some (ul F.n),some (u8 du),some (ul s),some (u8 th),some (ul (0+(j:Int))),some (ul Ee.n),some (ut wd)] H:=by
  rintro H wd rfl z;right;refine ae dw z .e rfl rfl ?_;right;refine aK (vs':=[u8 mo,ul (s:Int)]) rfl ?_;refine rh (n:=s) (rs:=rs) ro nofun ga gb ok (bG (L:=[_,_,_,_,_,_,_,_,_]) (bG hd)) z (λt H2 z2=>?_);rw[hE]at z2;left;refine g9 z2 (by show 2<=10000;omega) (λt2 H3 z4=>?_);left;refine wA (wL (z4.get .k1) z4.at) (by decide) (λe=>Sep.ne z4 e.symm) ?_;left;refine ak rfl ?_;rw[<-e1,<-e2,<-e3]at z4;have z5:Sep (Ae R mo lo so bo w d CP LV w2 d2 p2 lv2 SP ds ss ws F G' (X++O)) H3:=z4.drop.drop;clear z z2 z4;right;refine bq (λ_=>?_) (λ_=>?_)
  .right;refine eu (k:=k-1) ro nofun z5 (λH5 z6=>?_);left;refine ak rfl ?_;exact fin z6
  .left;refine ak rfl ?_;exact fin z5
 clear hX;left;refine ba (i:=0) (z3.get .k3) (v:=ul Ee.at_) rfl ?_;left;refine mZ rfl rfl ?_;left;refine ax (λg=>?_) (λg=>?_)
 .left;exact mid (by unfold rW;rw[if_pos nofun]) z3
 .left;refine aI (λg2=>?_) (λg2=>?_)
  .left;exact mid (by unfold rW;rw[if_neg nofun,if_neg nofun]) z3
  .exact mid (by unfold rW;rw[if_neg nofun,if_pos nofun]) z3
def wz {E:St->XK}{sc:V}(ro:Ro K R)(hk:14<=k)(hS:S.length=24)(ok:∀ r ∈ S.map (·.2),Rw.ok r) (hc:dE cs) (cl:cs.length=60) (wl:ws.length=60) (hw:c5 ws) (hm:m<=1000000) (z:Sep (hand h m::pt LV (v6 (ws.map ut))::pt CP (v6 (cs.map ul))::pt SP (v6 (S.map nA))::(S.reverse.map iV++[])) H) (q:∀ H',D.rt (.bl true) H'):
  wB (f9 5 jz.body) ⟨tab,R,aa tab R (k-1),true⟩ D E [some sc,some (u8 h),some (u8 SP),some (u8 CP),some (u8 LV),none,none,none,none,none,none,none,none,none,none,none,none] H:=by
 left;intro d hd;have z1:=z.new (o:=.dK []) hd;generalize upd H d (.dK [])=H0 at z1;walk_at "gd";rename_i ra Ha a0 a1 za rb Hb b0 b1 zb;refine ve (h:=ra) (t:=rb) (l:=0) (w:=1) (s:=0) (m:=0) zb .k1 (λH1 z2=>?_);clear z z1 za zb;walk_at "gd";rename_i rc Hc c0 c1 zc;refine Gw zc .k1 (λH3 z3=>?_);clear z2 zc;left;refine⟨rfl,?_⟩;left;refine lB (k:=k-1) nofun z3 nofun (λsg H4 s0 s1 z4=>?_);left;refine Gb z4 .k1 (λH5 z5=>?_);clear z3 z4;obtain⟨x,ex,hx⟩:∃ x:Bx,x=⟨ra,rb,0,1-2*rc,sg,0⟩/\x.ok:=⟨_,rfl,by
  refine⟨⟨by dsimp only;omega,by dsimp only;omega⟩,⟨by dsimp only;omega,by dsimp only;omega⟩,⟨by dsimp only;omega,by dsimp only;omega⟩,?_,⟨by dsimp only;omega,by dsimp only;omega⟩,?_⟩
  .show 1-2*rc=1\/1-2*rc= -1
   omega
  .exact .inl rfl⟩
 rw[<-ex]at z5;have xw:qU x:=by
  rw[ex];show 1-2*rc=1\/1-2*rc= -1
  omega
 clear ex;have hs0:=yf (O:=[]) (S:=S) rfl ok;have hrl:(S.map (·.2)).length=24:=by rw[ce];exact hS
 generalize S.reverse.map iV++[]=T at z5 hs0;generalize S.map (·.2)=rs at hs0 hrl ok;generalize S.map nA=ss at z5 hs0;right;rename_i w H6 z6;have z7:Sep (bZ w d CP LV 0 x cs ws (hand h (m+1+1+1+3)::pt SP (v6 ss)::T)) H6:=z6.sub (.cons .e (.cons .k1 (.cons .k2 (.cons .k1 (.cons .e (.cons .e .refl))))));clear z5 z6;refine uR (k:=k-1) nofun z7 (λw2 d2 p2 lv2 H7 z8=>?_);have z9:Sep (ao d x::pt CP (v6 (cs.map ul))::pt LV (v6 (ws.map ut))::pt SP (v6 ss)::pt w (v6 [ul 0,u8 d,u8 CP,u8 LV])::bZ w2 d2 p2 lv2 0 x cs ws (hand h (m+1+1+1+3)::T)) H7:=z8.sub (.cons (.j2 (.j2 .k1)) (.cons (.j2 (.j2 .k1)) (.cons (.j2 (.j2 .k1)) (.cons (.j2 (.j2 .k2)) (.cons (.j2 (.j2 .e)) (.cons .e (.cons .e (.cons .e (.cons .e (.cons .e .refl))))))))));clear z7 z8;right;refine C5 (k:=k-1) ro nofun nofun nofun nofun nofun hx nofun nofun hc nofun hw (hs0.more.more.more.more.more.more) z9 (λm1 l1 s1 b1 ds Δ H8 hd z10=>?_);clear z9;have z11:Sep ([bL R m1 l1 s1 b1 0 ds,ay R s1 cs ws,ar R b1 x,ao d x,pt CP (v6 (cs.map ul)),pt LV (v6 (ws.map ut)),pt SP (v6 ss)]++(pt w (v6 [ul 0,u8 d,u8 CP,u8 LV])::bZ w2 d2 p2 lv2 0 x cs ws [hand h (m+1+1+1+3)]++(Δ++T))) H8:=Sep.mv z10;have z12:Sep (bL R m1 l1 s1 b1 0 ds::ay R s1 cs ws::ar R b1 x::bZ w d CP LV 0 x cs ws (bZ w2 d2 p2 lv2 0 x cs ws (pt SP (v6 ss)::hand h (m+1+1+1+3)::(Δ++T)))) H8:=z11.sub (.cons .e (.cons .e (.cons .e (.cons (.j2 .k2) (.cons .e (.cons .e (.cons .e (.cons .k1 (.cons .k1 (.cons .k1 (.cons .k1 (.cons .e (.cons .e .refl)))))))))))));clear z10 z11;right;refine ae dw z12 .e rfl rfl ?_;left;refine lH (k:=k-1) ro nofun nofun nofun nofun nofun (bG (L:=[_,_,_,_,_,_,_,_,_,_]) (hd T)) z12 (λmo lo so bo H9 z13=>?_);clear z12;have hN:∃ N:Nat,N=1000000/\((N:Nat):Int)=10 ^ Int.toNat 6:=⟨1000000,rfl,by decide⟩;obtain⟨N,hN,eN⟩:=hN;have hcw:cs.length=ws.length:=by omega
 obtain⟨F,hF⟩:∃ F,rN rs ws N 0 x cs=F:=⟨_,rfl⟩;have few:=DA (n:=N) (rs:=rs) (ws:=ws) (at_:=0) (x:=x) (cs:=cs) ok nofun nofun xw nofun nofun;obtain⟨-,fa,fb⟩:=jL (ws:=ws) (n:=N) (x:=x) (cs:=cs) ok (show(0:Int)<=0 by omega) nofun;have last:=λc=>zL (rs:=rs) (ws:=ws) (N:=N) (c:=c) (at_:=0) (x:=x) (cs:=cs) nofun
 have z13:Sep (bL R mo lo so bo 0 ds::ay R so cs ws::ar R bo x::bL R m1 l1 s1 b1 0 ds::ay R s1 cs ws::ar R b1 x::bZ w d CP LV 0 x cs ws (bZ w2 d2 p2 lv2 0 x cs ws (pt SP (v6 ss)::hand h (m+1+1+1+3)::(Δ++T)))) H9:=z13;right;rw[<-eN];have z14:Sep (bZ w d CP LV 0 x cs ws (pt SP (v6 ss)::([bL R mo lo so bo 0 ds,ay R so cs ws,ar R bo x,bL R m1 l1 s1 b1 0 ds,ay R s1 cs ws,ar R b1 x,pt w2 (v6 [ul 0,u8 d2,u8 p2,u8 lv2]),ao d2 x,pt p2 (v6 (cs.map ul)),pt lv2 (v6 (ws.map ut)),hand h (m+1+1+1+3)]++(Δ++T)))) H9:=z13.sub (.cons (.j2 (.j2 (.j2 .e))) (.cons (.j2 (.j2 (.j2 .e))) (.cons (.j2 (.j2 (.j2 .e))) (.cons (.j2 (.j2 (.j2 .e))) (.cons (.j2 (.j2 (.j2 (.j2 (.j2 .e))))) .refl)))));clear z13;refine rV (k:=k-1) (n:=N) nofun nofun nofun hx.2.2.1.1 hcw (bP.app (L:=[_,_,_,_,_,_,_,_,_,_,_]) (bP.app hs0)) z14 (λH10 z15=>?_);clear z14;rw[hF]at few fa fb last z15⊢;have z15:Sep (bZ w d CP LV F.at_ F.x F.cs ws (pt SP (v6 ss)::bL R mo lo so bo 0 ds::ay R so cs ws::ar R bo x::bL R m1 l1 s1 b1 0 ds::ay R s1 cs ws::ar R b1 x::pt w2 (v6 [ul 0,u8 d2,u8 p2,u8 lv2])::ao d2 x::pt p2 (v6 (cs.map ul))::pt lv2 (v6 (ws.map ut))::hand h (m+1+1+1+3)::(Δ++T))) H10:=z15;have z16:Sep (bL R m1 l1 s1 b1 0 ds::ay R s1 cs ws::ar R b1 x::bZ w d CP LV F.at_ F.x F.cs ws (pt SP (v6 ss)::bL R mo lo so bo 0 ds::ay R so cs ws::ar R bo x::bZ w2 d2 p2 lv2 0 x cs ws (hand h (m+1+1+1+3)::(Δ++T)))) H10:=z15.sub (.cons (.j2 (.j2 (.j2 (.j2 .e)))) (.cons (.j2 (.j2 (.j2 (.j2 .e)))) (.cons (.j2 (.j2 (.j2 (.j2 .e)))) .refl)));clear z15;have hnf:¬ N<=F.n:=by omega
 have hfl:(rs.length:Int)=24:=by omega
 rw[hN]at hnf;left;refine qM z16 (by show 2<=10000;omega) (λq1 H11 z17=>?_);left;refine ba (i:=0) (z17.get (.j2 .k2)) (v:=ul F.at_) rfl ?_;left;refine mZ rfl rfl ?_;left;refine jj ?_;have due:∃ v,kx [ut "stop",ut "end"] (b2i (cJ (ul F.at_) (ul 24)))=some v/\v=ut (rW rs N F):=by
  unfold rW
  by_cases he:F.at_=24
  .rw[if_pos nofun,he];exact⟨_,rfl,rfl⟩
  .rw[if_neg nofun,if_neg nofun];have e:cJ (ul F.at_) (ul 24)=false:=by
    show(F.at_ ==24)=false;simpa using he
   rw[e];exact⟨_,rfl,rfl⟩
 obtain⟨v,ev,rfl⟩:=due;left;refine ba z17.at ev ?_;left;refine g9 z17.drop (by show 2<=10000;omega) (λdu H12 z18=>?_);clear z16 z17;right;refine ae dw z18 .k1 rfl rfl ?_;right;rw[<-eN];refine aK (vs':=[u8 m1,ul (N:Int)]) rfl ?_;have z19:Sep (bL R m1 l1 s1 b1 0 ds::ay R s1 cs ws::ar R b1 x::pt du (wf [ut (rW rs N F),ul F.n])::bZ w d CP LV F.at_ F.x F.cs ws (pt SP (v6 ss)::bL R mo lo so bo 0 ds::ay R so cs ws::ar R bo x::bZ w2 d2 p2 lv2 0 x cs ws (hand h (m+1+1+1+3)::(Δ++T)))) H12:=z18.sub (.cons .k1 (.cons .k1 (.cons .k1 .refl)));clear z18;refine rh (n:=N) (rs:=rs) (x:=x) (cs:=cs) (ws:=ws) ro nofun nofun nofun ok (bG (L:=[_,_,_,_,_,_,_,_,_,_,_,_,_,_]) (hd T)) z19 (λt H13 z20=>?_);rw[hF]at z20;left;refine wA (wL z20.at (z20.get (.j2 .k2))) (by decide) (λe=>Sep.ne (z20.pull (.j2 .k2)) e.symm) ?_;left;refine ak rfl ?_;have z21:Sep (bL R m1 l1 s1 b1 F.at_ ds::ay R s1 F.cs ws::ar R b1 F.x::bZ w d CP LV F.at_ F.x F.cs ws (pt SP (v6 ss)::bL R mo lo so bo 0 ds::ay R so cs ws::ar R bo x::bZ w2 d2 p2 lv2 0 x cs ws (hand h (m+1+1+1+3)::(Δ++T)))) H13:=z20.sub (.cons .k1 (.cons .k1 (.cons .k1 (.drop (.drop .refl)))));clear z19 z20;left;refine⟨rfl,?_⟩;left;refine eu (k:=k-1) ro nofun z21 (λH14 z22=>?_);clear z21;left;refine ak rfl ?_;have z23:Sep (hand h (m+1+1+1+3)::bL R mo lo so bo 0 ds::ay R so cs ws::ar R bo x::bZ w2 d2 p2 lv2 0 x cs ws (bZ w d CP LV F.at_ F.x F.cs ws (pt SP (v6 ss)::(Δ++T)))) H14:=z22.drop.drop.drop.sub (.cons (.j2 (.j2 (.j2 (.j2 (.j2 (.j2 .e)))))) (.cons (.j2 (.j2 .k1)) (.cons (.j2 (.j2 .k1)) (.cons (.j2 (.j2 .k1)) (.cons (.j2 (.j2 .k1)) (.cons (.j2 (.j2 .k1)) (.cons (.j2 (.j2 .k1)) (.cons (.j2 (.j2 .k1)) .refl))))))));clear z22;walk_at "gd";rename_i rr H15 rr0 rr1 z24;clear z23;obtain⟨s,es,s1',s30⟩:∃ s:Nat,1+rr=(s:Int)/\1<=s/\s<=30:=⟨(1+rr).toNat,by omega,by omega,by omega⟩;rw[es];have eq:(F.n:Int) / (s:Int)=((F.n / s:Nat):Int):=rfl;have hle:F.n / s<=F.n:=Nat.div_le_self _ _;have hlt:F.n<(F.n / s+1)*s:=by rw[Nat.add_mul,Nat.one_mul];exact Nat.lt_div_mul_add nofun
 generalize F.n / s=qn at eq hle hlt;refine⟨by rw[eq];omega,by rw[eq];omega,?_⟩;left;rw[eq,show(1+(qn:Int)).toNat=qn+1 by omega];have hsT:bP (Δ++T) ss rs:=bP.app hs0;have hdT:bT R (Δ++T) ds rs:=hd T;have z25:Sep (Ae R mo lo so bo w d CP LV w2 d2 p2 lv2 SP ds ss ws F (rN rs ws (0*s) 0 x cs) ([]++(Δ++T))) H15:=by
  rw[Nat.zero_mul];exact z24.drop
 clear z24;generalize Δ++T=O at hsT hdT z25;refine d9 (λj U H=>xK R mo lo so bo w d CP LV w2 d2 p2 lv2 SP h m1 du sc ds ss rs ws x cs F s (qn / 2) O j U H) ⟨mo,_,_,_,[],rfl,.inl ⟨Nat.zero_le _,rfl,rfl⟩,z25⟩ (λj U H hj hI=>?_) (λU H hI=>?_)
 .left;exact DT (k:=k) ro hk hrl ok hx.2.2.1.1 hcw hsT hdT s1' s30 nofun eq nofun hI (λσ' H' h=>h)
 obtain⟨th,u14,u15,u16,X,rfl,hX,z26⟩:=hI;clear z25;obtain⟨l3,s3,b3,rfl⟩:∃ l3 s3 b3,X=DM R th l3 s3 b3 ds ws (rN rs ws ((qn / 2+1)*s) 0 x cs):=by
  rcases hX with⟨h1,_⟩|⟨_,h2⟩
  .omega
  .exact h2
 obtain⟨g1,g2,g3⟩:=last ((qn+1)*s) nofun;obtain⟨e1,e2,e3⟩:=tE (rs:=rs) (ws:=ws) (a:=(qn / 2+1)*s) (c:=N) (at_:=0) (x:=x) (cs:=cs);obtain⟨f1,f2,f3⟩:=last ((qn / 2+1)*s+N) nofun;obtain⟨-,ga,gb⟩:=jL (ws:=ws) (n:=(qn / 2+1)*s) (x:=x) (cs:=cs) ok (show(0:Int)<=0 by omega) nofun;rw[f1]at e1;rw[f2]at e2;rw[f3]at e3;generalize rN rs ws ((qn / 2+1)*s) 0 x cs=G at z26 e1 e2 e3 ga gb;generalize rN rs ws ((qn+1)*s) 0 x cs=G2 at z26 g1 g2 g3;obtain⟨gn,g2a,g2x,g2c⟩:=G2;dsimp only at g1 g2 g3;subst g1 g2 g3;have z27:Sep (DM R th l3 s3 b3 ds ws G++(Ae R mo lo so bo w d CP LV w2 d2 p2 lv2 SP ds ss ws F F []++O)) H:=Sep.mv (P:=[]) (Δ:=Ae R mo lo so bo w d CP LV w2 d2 p2 lv2 SP ds ss ws F F []) (L:=DM R th l3 s3 b3 ds ws G) (O:=O) z26;clear z26 hX;have z28:Sep (bL R th l3 s3 b3 G.at_ ds::ay R s3 G.cs ws::ar R b3 G.x::Ae R mo lo so bo w d CP LV w2 d2 p2 lv2 SP ds ss ws F F O) H:=z27;clear z27;right;refine ae dw z28 .e rfl rfl ?_;right;rw[<-eN];refine aK (vs':=[u8 th,ul (N:Int)]) rfl ?_;refine rh (n:=N) (rs:=rs) ro nofun ga gb ok (bG (L:=[_,_,_,_,_,_,_,_,_,_,_,_]) hdT) z28 (λt H16 z29=>?_);rw[<-e1,<-e2,<-e3]at z29;clear z28;have z29:Sep (pt t (wf [ut (rW rs N (rN rs ws N G.at_ G.x G.cs)),ul (rN rs ws N G.at_ G.x G.cs).n])::bL R th l3 s3 b3 F.at_ ds::ay R s3 F.cs ws::ar R b3 F.x::bL R mo lo so bo F.at_ ds::ay R so F.cs ws::ar R bo F.x::bZ w2 d2 p2 lv2 F.at_ F.x F.cs ws (bZ w d CP LV F.at_ F.x F.cs ws (pt SP (v6 ss)::O))) H16:=z29;have z30:Sep (bL R mo lo so bo F.at_ ds::ay R so F.cs ws::ar R bo F.x::bZ w d CP LV F.at_ F.x F.cs ws (bL R th l3 s3 b3 F.at_ ds::ay R s3 F.cs ws::ar R b3 F.x::bZ w2 d2 p2 lv2 F.at_ F.x F.cs ws (pt SP (v6 ss)::O))) H16:=z29.drop.sub (.cons .k3 (.cons .k3 (.cons .k3 (.cons (.j2 (.j2 .k3)) (.cons (.j2 (.j2 .k3)) (.cons (.j2 (.j2 .k3)) (.cons (.j2 (.j2 .k3)) .refl)))))));clear z29;left;refine⟨rfl,?_⟩;left;refine eu (k:=k-1) ro nofun z30 (λH17 z31=>?_);clear z30;have z32:Sep (bL R th l3 s3 b3 F.at_ ds::ay R s3 F.cs ws::ar R b3 F.x::bZ w d CP LV F.at_ F.x F.cs ws (bZ w2 d2 p2 lv2 F.at_ F.x F.cs ws (pt SP (v6 ss)::O))) H17:=z31.drop.drop.drop.sub (.cons (.j2 (.j2 .e)) (.cons (.j2 (.j2 .e)) (.cons (.j2 (.j2 .e)) .refl)));clear z31;left;refine aG rfl ?_;left;refine⟨rfl,?_⟩;left;refine eu (k:=k-1) ro nofun z32 (λH18 z33=>?_);clear z32;have z34:Sep (bZ w d CP LV F.at_ F.x F.cs ws (bZ w2 d2 p2 lv2 F.at_ F.x F.cs ws (pt SP (v6 ss)::O))) H18:=z33.drop.drop.drop;clear z33;left;refine aG rfl ?_;left;refine E7 ⟨Sep.ne (z34.pull (.j2 (.j2 .e))),_,_,aY.of (z34.get (.j2 (.j2 .e))),aY.of z34.at,rfl,λj x y e1 e2=>?_⟩ (q _);rcases j with _|_|_|_|j
 .cases e1;cases e2;have e:=ff.flat (K:=R.K) (H:=H18) (n:=1) (x:=ul F.at_) (y:=ul F.at_) rfl rfl;rw[oO rfl]at e;exact .inl ⟨1,by decide,e⟩
 .cases e1;cases e2;refine .inr ⟨d2,d,tJ.zip (F.x.ls.map ul),rfl,rfl,.inl (z34.get (.j2 (.j2 .k1))),.inl (z34.get .k1),λkv hk=>?_⟩;obtain⟨i,_,e⟩:=List.mem_map.mp (of_mem_zip hk).2;rw[<-e]
  rfl
 .cases e1;cases e2;exact .inl ⟨2,by decide,fY (n:=0) (z34.get (.j2 (.j2 .k2))) (z34.get .k2) λy hy=>by
   obtain⟨i,_,rfl⟩:=List.mem_map.mp hy;exact⟨"int",rfl⟩⟩
 .cases e1;cases e2;exact .inl ⟨2,by decide,fY (n:=0) (z34.get (.j2 (.j2 .k3))) (z34.get .k3) λy hy=>by
   obtain⟨i,_,rfl⟩:=List.mem_map.mp hy;exact⟨"str",rfl⟩⟩
 .cases e1
end
def Ec (ro:Ro K R)(hk:14<=k):∀ vs H Q E,il K 63 vs H Q E->aa tab R k 103 vs H Q E:=by
 rintro vs H Q E ⟨a,sc,rfl,hS,h63,hQ⟩;delta jz;right;rw[<-ro.hK]at hS;refine Cs nofun Sep.nil hS h63 (λh H1 z1=>?_);right;refine uy (k:=k-1) nofun (by decide) z1 (λSP S H2 hSl ok z2=>?_);right;generalize hΓ:S.reverse.map iV++[]=Γ0 at z2;refine Cw (n:=60) nofun (λD ys H=>(∃ ns,ys=ns.map ul/\dE ns)/\Sep (pt D (v6 ys)::hand h (80+10*((ys.length:Nat):Int))::pt SP (v6 (S.map nA))::Γ0) H) (λD hD=>⟨⟨[],rfl,λi hi=>(by cases hi)⟩,(bD (n:=80+10*((([]:List V).length:Nat):Int)) ((z2.new (o:=v6 []) hD).pull .k2) (by simp)).sub (.cons .k1 (.cons .e .refl))⟩) (λD ys H hl hI=>?_) (λCP ys H hl hI=>?_)
 .obtain⟨⟨ns,rfl,hn⟩,z3⟩:=hI;clear z1 z2;walk_at "gd";rename_i ra Ha a0 a1 z4;refine lB (k:=k-1) nofun z4 nofun (λib Hb b0 b1 z5=>?_);left;refine qM z5 (by show 2<=10000;omega) (λp Hc z6=>?_);walk_at "gd";rename_i rd Hd d0 d1 z7;obtain⟨v,ev,i,rfl,i0,i1⟩:=wj (xs:=[ul ra,ul ib]) (P:=inR 0 1000000000) (r:=rd) d0 (by simpa using d1) (Kc (.mk nofun nofun) (.mk nofun nofun));refine ba (z7.get .k1) ev ?_;have z8:Sep (pt D (v6 (ns.map ul))::hand h (80+10*(((ns.map ul).length:Nat):Int)+1+3+1)::pt SP (v6 (S.map nA))::Γ0) Hd:=z7.sub (.cons .k2 (.cons .e (.drop .refl)));refine tO.mk z8.at nofun ⟨⟨ns++[i],by rw[dL];rfl,qB hn i0 i1⟩,?_⟩;have z9:=z8.set (o':=v6 (ns.map ul++[ul i])) rfl;exact(bD (n:=80+10*(((ns.map ul++[ul i]).length:Nat):Int)) (z9.pull .k1) (by rw[ci,f8];omega)).sub (.cons .k1 (.cons .e .refl))
 .obtain⟨⟨cs,rfl,hc⟩,z3⟩:=hI;rw[ce]at hl;clear z1 z2;have z3:=bD (n:=700) (z3.pull .k1) (by rw[ce];omega);subst hΓ;walk_at "gd";rename_i p1 Ha za p2 Hb zb rc Hc c0 c1 zc;have eR:(re (Int.toNat 60) [ut (Str.ofString "open")]).flatten=(re 60 (Str.ofString "open")).map ut:=by decide
  rw[eR]at zc;have z4:Sep (hand h (700+1)::pt p2 (v6 ((re 60 (Str.ofString "open")).map ut))::pt CP (v6 (cs.map ul))::pt SP (v6 (S.map nA))::(S.reverse.map iV++[])) Hc:=zc.sub (.cons .e (.cons .e (.drop (.cons .e (.cons .e .refl)))));clear za zb zc z3;refine ax (λg=>?_) (λg=>?_)
  .left;refine⟨rfl,?_⟩;left;refine tU (n:=60) (k:=k-1) nofun (by decide) nofun nofun z4 (λp ws H5 wl hw z5=>?_);have z6:Sep (hand h (700+1+20)::pt p (v6 (ws.map ut))::pt CP (v6 (cs.map ul))::pt SP (v6 (S.map nA))::(S.reverse.map iV++[])) H5:=z5.sub (.cons .k1 (.cons .e (.drop .refl)));left;exact wz (k:=k) ro hk hSl ok hc nofun wl hw (by decide) z6 hQ
  .exact wz (k:=k) ro hk hSl ok hc nofun (by rw[length_replicate]) (λw hw=>by rw[List.eq_of_mem_replicate hw];decide) (by decide) z4 hQ
def x9 (ro:Ro K R):∀ vs H Q E,il K 63 vs H Q E->aa tab R 14 103 vs H Q E:=Ec ro (pc _)
end
def walk {l:W.OpenLaw}{q:Program}{loose:List Str}{XP:(Str->Option Value)->Heap->Prop}{YP:World->Heap->Prop}{d:DefRec}{K:Params->W.Frag}(hn:l.most=some 63)(hdf:d.params.defaults=[])
    (hY:∀ (w:World) (h:Heap),YP w h->(K w.params).In h)
    (F:∀ (w:World) (mg:KH) (fa:Addr) (h:Heap),(K w.params).In h->h.Ns mainGlobals mg->mg d.name=some (.ref fa)->
      ∃ fd:FuncData,(∀ (s:Shared) (u:Value),BindsTo s fd ⟨[u],[]⟩ [("_law_script",u)])/\∀ base:Heap,(K w.params).In base->base.Ns mainGlobals mg->cM l.prog w (K w.params) mg base (xM l.prog w) 28 fa fd ["_law_script"] (il (K w.params) 63)):
    W.WalkO q loose XP YP l.row.toRowW d [] (λf vs=>PySem.call f vs):=
  L2.zV (n:=63) (k:=28) (x:="_law_script") (CX:=λw=>xM l.prog w) (sp:=λw=>il (K w.params) 63) hn (by decide) hdf ⟨rfl,by decide,by decide⟩ hY F (λ_ _ a ns hl _ hS=>⟨a,ns,rfl,hS,hl,λ_=>rfl⟩) λ_ _ _ _ _ z=>yg z
abbrev JG:List (Str×V):=[("BOUND",.int 1000000000),("MOST_ROWS",.int 24),("MOST_HOPPED",.int 24),("MOST_CELLS",.int 60),("NAMES",.ref 201),("LEAVES",.ref 821)]
def Ke (p:Params):L3.y8 (K0 p) tab Io Jr JG=true:=by kernel_rfl
def JZ (p:Params):L3.kU (K0 p) tab Io 0 tab.fns=true:=by kernel_rfl
end My
open PySem PySem.W PyProof.Rows
set_option maxRecDepth 100000 in
set_option maxHeartbeats 0 in
theorem PySem.Challenge.cw_haulbell_k48_whole_at_the_bounds_holds : PySem.Challenge.rw_haulbell_k48_whole_at_the_bounds.Holds := by
  refine holds_law My.FI fun said=>?_
  refine W.holds_open (loose:=My.vA) (N:=17648)
    (q:=My.pN My.pr)
    (Yf:=fun s=>My.Hy.map s.heap.get?)
    (Ya:=fun w=>(My.K0 w.params).map fun p=>some p.2)
    (Xt:=fun s=>xlAt (My.pN My.pr) [] s&&recOk PySem.Challenge.rw_haulbell_k48_whole_at_the_bounds.row.records s)
    (XP:=XL (My.pN My.pr) [])
    (YP:=InK My.K0) My.Fv
    (InK.of (as:=My.Hy) fun _=>by kernel_rfl) InK.keeps
    (fun s e=>xl_of s (Bool.and_eq_true_iff.mp e).1)
    XL.keeps (by rfl) (by rfl) (by rfl)
    (fun s e=>recFacts_of (Bool.and_eq_true_iff.mp e).2)
    (by rfl) (by assumption) (by decide+kernel)
    ⟨rfl,rfl,rfl,rfl,rfl,by decide+kernel⟩ ?hw ?hc
  case hw=>w_witness2
  refine My.walk (l:=PySem.Challenge.rw_haulbell_k48_whole_at_the_bounds) rfl rfl (fun w h Y=>Y) ?F
  case F=>
    intro w mg fa h KX G hmg;exact L3.AL KX G hmg (T:=My.tab) (fs:=My.Io) (cs:=My.Jr) (gs:=My.JG) (d:=My.jz) (fl:=103) (k:=14) (My.Ke _) (My.JZ _) (by kernel_rfl) rfl rfl rfl (My.x9 ⟨rfl,by kernel_rfl,by kernel_rfl,by kernel_rfl,by kernel_rfl,⟨201,by kernel_rfl,L3.vE (by kernel_rfl)⟩,⟨821,by kernel_rfl,L3.vE (by kernel_rfl)⟩⟩)
