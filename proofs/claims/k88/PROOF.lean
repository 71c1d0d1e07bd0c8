import PyProof.Rows.All
import Wide.All
import OpenK.AllK
import Wide.FinOn
import PySem.Challenge.RW_haulbell_k88_not_blind
import Lean
import PyProof.EqAt
import PyProof.EqKinds
import PyProof.TupleCall
import PyProof.EnumStmt
import PyProof.NeKinds
import PyProof.ExcAttrAll.ValueError
import PyProof.ExcInit
import PyProof.StationsW
import PyProof.NsDelKeeps
import PyProof.InstStoreFacts
import PyProof.ZipIter
import PyProof.IsiBase
import PyProof.AttrMiss
import KE.KDictOf
import KE.KDictList
import PyProof.InstEq
import PyProof.Rows.Range3
import PyProof.EnumMake
import PyProof.StrWalks
import PyProof.DictWalks
import PyProof.Rows.StrWeight2
import PyProof.StrCalls2
import PyProof.Rows.StrFacts2
import KE.KEqDict
import KE.KTab
import KE.KTabLook
import KE.KIntText
import PyProof.SliceStr
import PyProof.StrOps2
import KE.LcSums
open PySem.W renaming behindTheImports→ac
open PySem renaming wpAny_bind→ad,wpAny_pure→am,wpAny_field→ap,wpAny_holding→bd,wpAny_truthy_bool→bi,starEach→bm,sizeLine→bn,wpAny_Call_Name_kw→bv
open List renaming length_map→ci,length_append→cr,mem_of_getElem?→db,length_take→dl,mem_cons_of_mem→dL,map_append→f8,length_singleton→ge,size_toArray→ii,mem_append_right→im,getElem?_map→io,length_drop→jp,append_assoc→le,getElem?_eq_getElem→li,mem_cons_self→lv,mem_cons→lw
open Bool renaming and_eq_true→mo
open Option renaming map_eq_some_iff→nb
open Nat renaming lt_of_lt_of_le→nw,le_of_ble_eq_true→pc,ne_of_lt→pi,le_refl→re
open Int renaming toNat_natCast→sn,eq_ofNat_of_zero_le→sw
open List renaming replicate→sK,getElem?_eq_some_iff→tz
open PySem.Heap renaming get?_push_of_some→ul,lt_size→ut,get?_push_size→v0
set_option linter.all false
set_option maxRecDepth 100000
set_option Elab.async false
set_option compiler.extract_closed false
theorem My.kleA {a b k:Nat}(h:a<=k)(e:Nat.ble (b+1) a=true):b<=k-1:=Nat.le_sub_one_of_lt (nw (pc e) h)
theorem My.kleB {a b k:Nat}(h:a<=k)(e:Nat.ble b a=true):b<=k:=Nat.le_trans (pc e) h
set_option hygiene false
local macro_rules| `(tactic|sleep $n:num)=>`(tactic|((conv at h=>lhs;whnf);iterate $n (split at h;rotate_left;cases h)))
set_option hygiene true
local macro_rules|`(command|abbrev $i:declId $s:optDeclSig $v:declVal)=>`(command|noncomputable def $i:declId $s:optDeclSig $v:declVal)
local macro_rules|`(command|def $i:declId $b:bracketedBinder* :$t $v:declVal)=>`(command|theorem $i:declId $b:bracketedBinder* :$t $v:declVal)
local macro_rules|`(nofun)=>`(by first|exact My.kleA (by assumption) (by rfl)|exact My.kleB (by assumption) (by rfl)|lia|omega)
local macro_rules|`(tactic|omega)=>`(tactic|lia)
noncomputable abbrev My.pr:PySem.Program:=PySem.Challenge.rw_haulbell_k88_not_blind.row.prog
open PySem PySem.W in
set_option maxHeartbeats 0 in
def My.GN:PySem.Challenge.rw_haulbell_k88_not_blind.wellSaid=true:=by
  rewrite [Fast.te9446332074065402090]
  kernel_rfl
namespace L2
open PySem PySem.Spec
abbrev inClass (s:Stmt)(j:Nat):Stmt:=match s with
  | .ClassDef _ _ _ body _ _ _ _ _ _ _=>body.getD j (.Pass ⟨0,0,0,0⟩)
  |_=>.Pass ⟨0,0,0,0⟩
abbrev tE (s:Stmt):Arguments:=match s with
  | .FunctionDef _ a _ _ _ _ _ _ _ _=>a
  |_=>{ posonlyargs:=[],args:=[],vararg:=none,kwonlyargs:=[],kw_defaults:=[],kwarg:=none,defaults:=[] }
abbrev rQ (s:Stmt):List Stmt:=match s with
  | .FunctionDef _ _ b _ _ _ _ _ _ _=>b
  |_=>[]
abbrev qe (s:Stmt):Scope:=match s with
  | .FunctionDef _ _ _ _ _ _ sc _ _ _=>sc
  |_=>{ kind:=.function,names:=[],isGenerator:=false,isCoroutine:=false }
end L2
namespace My
open PySem L2 PySem.W
abbrev top (i:Nat):Stmt:=PySem.Challenge.pw_haulbell_k88_not_blind.main.body.getD i (.Pass ⟨0,0,0,0⟩)
abbrev tq (i j:Nat):Stmt:=inClass (top i) j
/-- the top's run on a tree -/
abbrev kf (tb:String->Option Builtin)(p:Program)(w:World)(m:Nat)(ann:Option Value):Nat->SharedT->Thread->Option SharedT
  |0,_,_=>none
  |n+1,s,t=>match through t with
    |true=>some s
    |false=>match stepOk m ann t with
      |false=>none
      |true=>match stepT (denote tb) p w s t with
        |some r=>kf tb p w m ann n r.1 r.2
        |none=>none
def tO {tb:String->Option Builtin}{p:Program}{w:World}{m:Nat}{ann:Option Value}:∀ {n:Nat}{s s':SharedT}{t:Thread},kf tb p w m ann n s t=some s'->topRun tb p w m ann n s.abs t=some s'.abs
  |0,_,_,_,h=>by cases h
  |n+1,s,s',t,h=>by
    unfold kf at h;unfold topRun;cases a:through t
    · rw[a]at h;dsimp only at h⊢
      cases b:stepOk m ann t
      · rw[b]at h;cases h
      · rw[b]at h;dsimp only at h⊢
        cases c:stepT (denote tb) p w s t with
        |none=>rw[c]at h;cases h
        |some r=>rw[c]at h;rw[stepT_spec c];exact tO h
    · rw[a]at h;cases h;rfl
abbrev FF:Nat->BT->List Obj->BT
  |_,t,[]=>t
  |n,t,o::os=>FF (n+1) (t.ins n o) os
abbrev yh (P:Params):BT:=FF 0 .nil (boot_heap P).objs.toList
abbrev Ih (P:Params)(os:OsState):SharedT:=⟨yh P,11,(boot_heap P).life,Array.mk [],boot_drawn,boot_toks,os⟩
def vh {p q:Program}{loose:List Str}{Xt:Shared->Bool}{α:Type}{Yf:Shared->α}{Ya:World->α}{N:Nat}(e:opening p=plainProg p.main.scope.names)(hN:Nat.ble 600 N=true)(f:∀ s,fenceModules? p s=some s)
    (h0:∀ P,absHeap (yh P) 11 (boot_heap P).life=boot_heap P) (h1:∀ P,((boot_heap P).isNs mainGlobals,(boot_heap P).objs.size,(boot_heap P).nsMap mainGlobals "__annotations__")=(true,11,some (.ref 6)))
    (run:∀ (w:World) (os:OsState),(kf treeTable p w 11 (some (.ref 6)) N (Ih w.params os) (topStub p)).map (λs=>(staticsOk (importedModules p.main.body) (boot_heap w.params) s.abs.heap&&namesBound p s.abs.heap&&gensDone s.abs&&laidKept (boot_heap w.params) s.abs.heap,
      openSeen q loose (importedModules p.main.body) Xt true s.abs,Yf s.abs))=some (true,openGood q loose,Ya w)):LeftO p q loose Xt Yf Ya N:=λw=>by
  obtain⟨⟨hp,gs,d,k,os⟩,e1,e2⟩:=nb.mp (boot_open e hN f w);obtain⟨rfl,rfl,rfl,rfl⟩:hp=boot_heap w.params/\gs=Array.mk []/\d=boot_drawn/\k=boot_toks:=by simpa using e2
  obtain⟨z1,z2,z3⟩:_/\_/\_:=by simpa only [Prod.mk.injEq] using h1 w.params
  obtain⟨s,r,l⟩:=nb.mp (run w os);obtain⟨l1,l2,l3⟩:_/\_/\_:=by simpa only [Prod.mk.injEq] using l
  have r1:=tO r;have a0:(Ih w.params os).abs=⟨boot_heap w.params,Array.mk [],boot_drawn,boot_toks,os⟩:=by
    show(⟨absHeap (yh w.params) 11 (boot_heap w.params).life,Array.mk [],boot_drawn,boot_toks,os⟩:Shared)=_;rw[h0]
  rw[a0]at r1;unfold openEnds;rw[e1];have t:topFrom treeTable p w N ⟨boot_heap w.params,Array.mk [],boot_drawn,boot_toks,os⟩=some s.abs:=by
    unfold topFrom;dsimp only;rw[z1,z2,z3,r1];show(match staticsOk (importedModules p.main.body) (boot_heap w.params) s.abs.heap&&namesBound p s.abs.heap&&gensDone s.abs&&laidKept (boot_heap w.params) s.abs.heap with|true=>some s.abs|false=>none)=some s.abs;rw[l1]
  show(topFrom treeTable p w N _).map _=_;rw[t];exact congrArg some (Prod.ext l2 l3)
abbrev HU:List Addr:=2::3::30::31::47::48::50::51::66::67::69::70::85::86::88::89::104::105::107::108::123::124::126::127::142::143::145::146::161::162::164::165::180::181::183::184::192::193::199::200::201::207::208::214::215::221::222::230::236::237::243::244::250::251::255::256::262::263::265::266::276::277::283::284::293::294::311::312::318::319::325::326::328::329::344::345::351::352::358::359::361::362::377::378::384::385::391::392::394::395::410::411::417::418::424::425::427::428::443::444::450::451::457::458::460::461::469::470::476::477::483::484::490::491::497::498::504::505::518::519::525::526::528::529::544::545::551::552::554::555::570::571::577::578::580::581::596::597::603::604::606::607::622::623::629::630::632::633::648::649::655::656::658::659::667::668::674::675::681::682::690::696::697::703::704::710::711::717::718::757::758::764::765::767::768::778::779::792::793::799::800::806::807::827::828::834::835::841::842::855::856::858::859::869::870::876::877::888::889::895::896::902::903::909::910::916::917::919::920::930::931::937::938::944::945::951::952::958::959::965::966::970::971::977::978::984::985::991::992::998::999::1007::1013::1014::1020::1021::1027::1028::1030::1031::1039::1040::1046::1047::1053::1054::1065::1066::1072::1073::1079::1080::1086::1087::1098::1099::1105::1106::1112::1113::1119::1120::1126::1127::1133::1134::1138::1139::[]
abbrev JK:List Addr:=48::67::86::105::124::143::162::181::193::200::208::215::222::237::244::251::256::263::277::284::312::319::326::345::352::359::378::385::392::411::418::425::444::451::458::470::477::484::491::498::505::519::526::545::552::571::578::597::604::623::630::649::656::668::675::682::697::704::711::718::758::765::779::793::800::807::828::835::842::856::870::877::889::896::903::910::917::931::938::945::952::959::966::971::978::985::992::999::1014::1021::1028::1040::1047::1054::1066::1073::1080::1087::1099::1106::1113::1120::1127::1134::1139::[]
abbrev J8:List Addr:=[31,51,70,89,108,127,146,165,184,266,294,329,362,395,428,461,529,555,581,607,633,659,768,859,920,1031]
abbrev runK (tb:String->Option Builtin)(p:Program)(w:World)(m:Nat)(ann:Option Value):Nat->SharedT->Thread->Option (SharedT×Thread)
  |0,s,t=>some (s,t)
  |n+1,s,t=>match through t with
    |true=>none
    |false=>match stepOk m ann t with
      |false=>none
      |true=>match stepT (denote tb) p w s t with
        |some r=>runK tb p w m ann n r.1 r.2
        |none=>none
def cL {tb:String->Option Builtin}{p:Program}{w:World}{m:Nat}{ann:Option Value}{k:Nat}:∀ {n:Nat}{s:SharedT}{t:Thread}{r:SharedT×Thread},runK tb p w m ann n s t=some r->kf tb p w m ann (n+k) s t=kf tb p w m ann k r.1 r.2
  |0,s,t,r,h=>by
    rw[Nat.zero_add];cases h
    rfl
  |n+1,s,t,r,h=>by
    rw[Nat.succ_add];unfold runK at h;conv=>lhs;unfold kf
    cases a:through t
    · rw[a]at h;dsimp only at h⊢
      cases b:stepOk m ann t
      · rw[b]at h;cases h
      · rw[b]at h;dsimp only at h⊢
        cases c:stepT (denote tb) p w s t with
        |none=>rw[c]at h;cases h
        |some r=>rw[c]at h;exact cL h
    · rw[a]at h;cases h
abbrev kT (x y:Str)(s:Stmt):Obj:=⟨.none,none,.func { name:=x,qualname:=y,params:=tE s,body:=.stmts (rQ s),scope:=qe s,globals:=builtinsNs,closure:=[],defaults:=.none,kwdefaults:=.none },#[]⟩
abbrev bo (P:Params)(i:Nat):Obj:=(boot_heap P).objs.toList.getD i ⟨.none,none,.plain,#[]⟩
abbrev gZ (p:Program):Env:={ scope:=p.main.scope,locals:=mainNs,globals:=mainNs,cells:=[],code:=.ref 13,frame:=some 14 }
abbrev JS:Frame:=.ret (λx=>Sem.bind (match x with| .ok f=>Sem.pure f| .error e=>Sem.raise e) (λ_=>ret .none)) none false [] (.builtin "claim.caller" {}) default []
abbrev AD (p:Program)(X:List Stmt):Sem Fin:=Sem.bind (Sem.onRaise (execs X (gZ p)) (leaving (gZ p))) (λa=>Sem.pure (Fin.done a))
abbrev jI (p:Program)(X:List Stmt)(q:Pos):Thread:=⟨AD p X,.body (ac p) (gZ p),q,[JS]⟩
def wN {tb:String->Option Builtin}{p:Program}(h:blockStart (ac p) (gZ p)=Sem.pure ()):denote tb (.body (ac p) (gZ p))=AD p (ac p):=by
  show Sem.bind (blockStart (ac p) (gZ p)) (λ_=>AD p (ac p))=_;rw[h]
  rfl
abbrev o0:Obj:=⟨.type "tuple",none,.seq #[] 0,#[]⟩
abbrev oN:Obj:=⟨.none,none,.fields #[],#[]⟩
abbrev oL:List Str->Nat->List Value
  | [],_=>[]
  |x::r,t=>.str x t::oL r (t+1)
abbrev oS (l:List Str)(t:Nat):Obj:=⟨.type "tuple",none,.seq (Array.mk (oL l t)) 0,#[]⟩
abbrev Jg (l:List (Int×Nat)):Array Value:=(l.flatMap λp=>[.int p.1 0,.int 0 0,.ref p.2]).toArray
abbrev Kh:List (Int×Nat):=[(1,20),(5,27),(7,40),(12,59),(18,78),(24,97),(29,116),(34,135),(39,154),(44,173),(51,192),(53,199),(57,207),(59,214),(61,221),(69,228),(98,276),(101,283),(104,290),(106,304),(120,337),(134,370),(148,403),(160,436),(176,469),(178,476),(180,483),(183,490),(186,497),(189,504),(196,511)]
abbrev JR:List (Int×Nat):=Kh++[(208,537),(219,563),(234,589),(251,615),(269,641),(286,667),(292,674),(295,681),(302,688),(349,778),(355,785)]
abbrev Kw:List (Int×Nat):=JR++[(400,869),(402,876),(406,883),(426,930),(436,937),(438,944),(440,951),(445,958),(450,965),(455,970),(457,977),(463,984),(474,991),(476,998),(478,1005),(497,1039),(503,1046),(519,1053),(528,1058),(536,1065),(545,1072),(556,1079),(574,1086),(593,1091),(596,1098),(598,1105),(603,1112),(607,1119),(613,1126),(619,1133)]
abbrev oI (l c a:Nat):Obj:=⟨.none,none,.fields #[.int l 0,.int c 0,.ref a],#[]⟩
abbrev oK (x:Str)(t l r:Nat):Obj:=⟨.type "code",none,.fields #[.str x t,.str x (t+1),.str "/claim/cut.py" (t+2),.int l 0,.int 0 0,.int 0 0,.int 0 0,.int 0 0,.ref r,.bool false,.int 181 0,.ref (r+1),.none,.none,.none,.none,.int (t+3:Nat) 0,.int l 0,.str "/claim/cut.py" (t+4)],#[]⟩
abbrev oC (x y:Str)(t l n r u:Nat):Obj:=⟨.type "code",none,.fields #[.str x t,.str y (t+1),.str "/claim/cut.py" (t+2),.int l 0,.int n 0,.int 0 0,.int 0 0,.int 3 0,.ref r,.bool true,.int 181 0,.ref (r+1),.none,.ref (r+2),.ref (r+3),.ref (r+4),.int u 0,.int l 0,.str "/claim/cut.py" (u+1)],#[]⟩
abbrev oF (x y:Str)(s:Stmt)(m:Str)(t c:Nat)(d:Value:=.none):Obj:=⟨.type "function",none,.func (fnOf x y (tE s) (rQ s) (qe s) d .none .none (.str m t) none (.ref c) .none),#[]⟩
abbrev oR (a b:Nat)(m:Str)(t:Nat):Obj:=⟨.type "frame",none,.plain,#[some (.ref a),some (.ref 3),some (.ref b),none,some (.str m t),none,some (.ref 0)]⟩
abbrev oX (x:Str)(b m:List Value)(n:Addr)(s:List Value)(r t u:Nat)(w:String):Obj:=⟨.type "type",none,.cls ⟨x,b,m,n,x,true,[],s,false,none,false⟩,#[some (.ref r),none,some (.str x t),some (.str x u),some (.builtin w),some (.bool true)]⟩
abbrev oU (a:Addr):Obj:=⟨.type "super",none,.fields #[.ref a,.ref a,.ref a],#[]⟩
abbrev oJ (a:Addr):Obj:=⟨.type "builtin_function_or_method",none,.fields #[.builtin "object.__init_subclass__",.ref a],#[]⟩
abbrev oP:Obj:=⟨.type "builtin_function_or_method",none,.fields #[.builtin "type.__prepare__",.type "type"],#[]⟩
abbrev oQ (a:Addr):Obj:=⟨.type "tuple",none,.seq #[.ref a] 0,#[]⟩
abbrev fG (x y:Str)(s:Stmt)(m:Str)(mt:Nat)(l:List Str)(t ln n a:Nat)(r:List Obj):List Obj:=o0::oN::oS l (t+3)::o0::kT x y s::oC x y t ln n a (t+3+l.length)::oF x y s m mt (a+5)::r
abbrev oW:List (Nat×Obj)->List Obj->List Obj
  | [],l=>l
  |x::r,l=>(oW r l).set x.1 x.2
abbrev eV (x:Str)(t:Tok)(v:Value)(P:Params):DictEntry:=⟨PyData.keyHash P x,.str x t,v⟩
abbrev eM (t:Nat)(m:Str)(u:Nat):Params->DictEntry:=eV "__module__" t (.str m u)
abbrev eQ (t:Nat)(m:Str)(u:Nat):Params->DictEntry:=eV "__qualname__" t (.str m u)
abbrev eF (t l u:Nat):Params->DictEntry:=eV "__firstlineno__" t (.int l u)
abbrev eS (t a:Nat):Params->DictEntry:=eV "__static_attributes__" t (.ref a)
abbrev eN (t:Nat):Params->DictEntry:=eV "__doc__" t .none
abbrev eR (x:Str)(t a:Nat):Params->DictEntry:=eV x t (.ref a)
abbrev oD (P:Params)(es:List (Params->DictEntry))(n:Nat):Obj:=⟨.type "dict",none,.dict (Array.mk (es.map λf=>f P)) n,#[]⟩
abbrev Kq (P:Params):List Obj:=
bo P 0::
bo P 1::
bo P 2::
bo P 3::
bo P 4::
bo P 5::
bo P 6::
bo P 7::
bo P 8::
bo P 9::
bo P 10::
o0::
oN::
oK "<module>" 182 1 11::
oR 13 3 "__main__" 164::[]
abbrev KO (x y:Str)(t l n r:Nat):Obj:=⟨.type "code",none,.fields #[.str x t,.str y (t+1),.str "/claim/cut.py" (t+2),.int l 0,.int n 0,.int 0 0,.int 0 0,.int 3 0,.ref r,.bool true,.int 181 0,.ref (r+1),.none,.none,.none,.ref (r+2),.int (t+3:Nat) 0,.int l 0,.str "/claim/cut.py" (t+4)],#[]⟩
abbrev oG (x b:String)(v:Value)(a t:Nat):Obj:=⟨.type "getset_descriptor",none,.fields #[.str (Str.ofString x) t,.ref a,.builtin b,v],#[]⟩
@[reducible]def Mt:Type:=Str×Str×List Str×Nat×Nat×List (Obj×Nat)
abbrev B5 (a t:Nat)(s:Stmt)(m:Str×Nat)(x y:Str)(l:List Str)(ln n:Nat)(d:Value):List Obj:=match l with
  | []=>o0::oN::kT x y s::KO x y t ln n a::oF x y s m.1 m.2 (a+3) d::[]
  |_=>o0::oN::oS l (t+3)::o0::kT x y s::oC x y t ln n a (t+3+l.length)::oF x y s m.1 m.2 (a+5) d::[]
abbrev J4 (a t:Nat)(s:Stmt)(m:Str×Nat)(q:Mt):List Obj:=match q.2.2.2.2.2 with
  | []=>B5 a t s m q.1 q.2.1 q.2.2.1 q.2.2.2.1 q.2.2.2.2.1 .none
  |d::_=>d.1::B5 (a+1) (t+d.2) s m q.1 q.2.1 q.2.2.1 q.2.2.2.1 q.2.2.2.2.1 (.ref a)
abbrev Ct (q:Mt)(a:Nat):Nat:=match q.2.2.1 with
  | []=>a+5+q.2.2.2.2.2.length
  |_=>a+7+q.2.2.2.2.2.length
abbrev F4 (q:Mt)(t:Nat):Nat:=match q.2.2.2.2.2 with
  | []=>t+6+q.2.2.1.length
  |d::_=>t+d.2+6+q.2.2.1.length
abbrev JP (i:Nat)(m:Str×Nat):Nat->List Mt->Nat->Nat->(List Obj->Nat->Nat->List Obj)
  |_,[],_,_=>λr _ _=>r
  |j,q::l,a,t=>λr x y=>J4 a t (inClass (top i) j) m q++JP i m (j+1) l (Ct q a) (F4 q t) r x y
abbrev JQ:List Mt->Nat->Nat
  | [],a=>a
  |q::l,a=>JQ l (Ct q a)
abbrev JX:List Mt->Nat->Nat
  | [],a=>a
  |q::l,a=>JX l (F4 q a)
abbrev Kc:List Mt->Nat->Nat->List (Params->DictEntry)->List (Params->DictEntry)
  | [],_,_,r=>r
  |q::l,a,t,r=>eR q.1 (F4 q t-1) (Ct q a-1)::Kc l (Ct q a) (F4 q t) r
abbrev J0:List Mt->Nat->List Value
  | [],_=>[]
  |q::l,a=>.int q.2.2.2.1 0::.int 4 0::.ref (Ct q a-2)::J0 l (Ct q a)
@[reducible]def It:Type:=(Params->List Obj)×List (Params->DictEntry)×List Value
abbrev iF (a t i:Nat)(m:Str×Nat)(x:Str)(l:List Str)(ln n:Nat)(d:List (Obj×Nat):=[]):It:=(λ_=>J4 a t (top i) m (x,x,l,ln,n,d),eR x (F4 (x,x,l,ln,n,d) t-1) (Ct (x,x,l,ln,n,d) a-1)::[],.int ln 0::.int 0 0::.ref (Ct (x,x,l,ln,n,d) a-2)::[])
abbrev iR (o:Params->List Obj):It:=(o,[],[])
abbrev iE (x:Str)(t:Nat)(v:Value):It:=(λ_=>[],[eV x t v],[])
abbrev iC (a T i:Nat)(m:Str×Nat)(x:Str)(ln:Nat)(ms:List Mt)(st:List Str)(sub:List Value:=[]) (br:Nat:=0) (mro:List Value:=[]) (w:String:=""):It:=
  let b:=JQ ms (a+7)
  let s:=JX ms (T+12)
  let e:=s+st.length
  let h (z:List (Params->DictEntry)):=eF (T+11) ln (T+10)::Kc ms (a+7) (T+12) (eS e b::z)
  let o (y:List (Params->DictEntry)) (z k:Obj) (n:Nat) (r:List Obj) (P:Params):List Obj:=z::oP::oD P (eM (T+7) m.1 m.2::eQ (T+9) x (T+8)::h []) (4+ms.length)::o0::⟨.none,none,.fields (Array.mk (J0 ms (a+7))),#[]⟩::oK x (T+2) ln (a+3)::oR (a+5) (a+2) m.1 m.2::JP i m 0 ms (a+7) (T+12) ((match st with| []=>o0|_=>oS st s)::oD P (eM (T+7) m.1 m.2::h y) n::k::r) 0 0
  match br with
  |0=>(o [eR "__dict__" (e+2) (b+3),eR "__weakref__" (e+4) (b+4),eN (e+5)] o0 ⟨.type "type",none,.cls ⟨x,[.type "object"],[.ref (b+2),.type "object"],b+1,x,true,[],sub,false,none,false⟩,#[none,none,some (.str x T),some (.str x (T+8)),some (.builtin "object.__new__"),some (.bool true)]⟩ 4 [oG "__dict__" "function.__dict__" (.builtin "function.__dict__#set") (b+2) (e+1),oG "__weakref__" "ExceptionGroup.__weakref__" .none (b+2) (e+3),oU (b+2),oJ (b+2)],eR x (e+7) (b+2)::[],.int ln 0::.int 0 0::.ref (a+5)::[])
  |_=>(o [eN (e+1)] (oQ br) (oX x [.ref br] (.ref (b+2)::.ref br::mro) (b+1) sub a T (T+8) w) 2 [oU (b+2),oJ (b+2)],eR x (e+3) (b+2)::[],.int ln 0::.int 0 0::.ref (a+5)::[])
abbrev HV (P:Params)(nm:Str)(nt n:Nat)(l:List It):List Obj:=bo P 0::bo P 1::bo P 2::oD P (eV "__name__" 165 (.str nm nt)::eN 166::eV "__package__" 167 .none::eV "__loader__" 168 (.builtin "__main__.__loader__#opaque")::eV "__spec__" 169 .none::eR "__annotations__" 170 6::eR "__builtins__" 171 4::eV "__file__" 173 (.str "/claim/cut.py" 172)::eV "__cached__" 174 .none::l.flatMap (·.2.1)) n::bo P 4::bo P 5::bo P 6::bo P 7::bo P 8::bo P 9::bo P 10::o0::⟨.none,none,.fields (Array.mk (l.flatMap (·.2.2))),#[]⟩::oK "<module>" 182 1 11::oR 13 3 "__main__" 164::l.flatMap (·.1 P)
abbrev Ku:Str×Nat:=("__main__",164)
abbrev Cg:Str×Nat:=("haulbell.errors",194)
abbrev JT:Str×Nat:=("haulbell.wholes",418)
abbrev Iv:Str×Nat:=("haulbell.boxes",436)
abbrev CG:Str×Nat:=("haulbell.deeds",541)
abbrev vw:Str×Nat:=("haulbell.longs",791)
abbrev Ic:Str×Nat:=("haulbell.machine",1045)
abbrev J9:Str×Nat:=("haulbell.store",1188)
abbrev Iy:Str×Nat:=("haulbell.shadows",1305)
abbrev CA:Str×Nat:=("haulbell.likeness",1395)
abbrev CV:Str×Nat:=("haulbell.hops",1474)
abbrev eE:Str×Nat:=("law_haulbell_k88_not_blind",1536)
abbrev Co (a T i:Nat)(m:Str×Nat)(x:Str)(ln:Nat)(ms:List Mt)(st:List Str)(sub:List Value:=[]):It:=iC a T i m x ln ms st sub 31 [.type "ValueError",.type "Exception",.type "BaseException",.type "object"] "ValueError.__new__"
abbrev vn (a T i:Nat)(m:Str×Nat)(x:Str)(ln:Nat)(ms:List Mt)(st:List Str)(sub:List Value:=[]):It:=iC a T i m x ln ms st sub 294 [.type "object"] "object.__new__"
abbrev zh:List It:=
iF 15 187 0 Ku "_wall" ["k"] 1 1::
iE "HaulError" 213 (.ref 31)::
iR (λP=>[⟨.type "tuple",none,.seq #[.type "ValueError"] 0,#[]⟩,oP,oD P [eM 203 "haulbell.errors" 194,eQ 205 "HaulError" 204,eF 207 5 206,eS 208 29] 4,o0,oN,oK "HaulError" 198 5 25,oR 27 24 "haulbell.errors" 194,o0,oD P [eM 203 "haulbell.errors" 194,eF 207 5 206,eS 208 29,eR "__weakref__" 210 32,eN 211] 3,oX "HaulError" [.type "ValueError"] [.ref 31,.type "ValueError",.type "Exception",.type "BaseException",.type "object"] 30 [.ref 51,.ref 70,.ref 89,.ref 108,.ref 127,.ref 146,.ref 165,.ref 184] 22 196 204 "ValueError.__new__",⟨.type "getset_descriptor",none,.fields #[.str "__weakref__" 209,.ref 31,.builtin "ExceptionGroup.__weakref__",.none],#[]⟩,oU 31,oJ 31])::
Co 35 214 3 Cg "NoStore" 7 [("__init__","NoStore.__init__",["self","at"],9,2,[])] ["at"]::
Co 54 239 4 Cg "Stop" 12 [("__init__","Stop.__init__",["self","deed","cell"],14,3,[])] ["cell","deed"]::
Co 73 266 5 Cg "NoFit" 18 [("__init__","NoFit.__init__",["self","box","number"],20,3,[])] ["box","number"]::
Co 92 293 6 Cg "NoBox" 24 [("__init__","NoBox.__init__",["self","box"],26,2,[])] ["box"]::
Co 111 318 7 Cg "NoDeed" 29 [("__init__","NoDeed.__init__",["self","word"],31,2,[])] ["word"]::
Co 130 343 8 Cg "NoRows" 34 [("__init__","NoRows.__init__",["self","at"],36,2,[])] ["at"]::
Co 149 368 9 Cg "NoPlace" 39 [("__init__","NoPlace.__init__",["self","at"],41,2,[])] ["at"]::
Co 168 393 10 Cg "NotBlind" 44 [("__init__","NotBlind.__init__",["self","at"],46,2,[])] ["at"]::
iE "BOUND" 421 (.int 1000000000 420)::
iF 187 422 13 JT "is_whole" ["thing"] 51 1::
iF 194 429 14 JT "is_content" ["thing"] 53 1::
iE "NAMES" 444 (.ref 201)::
iR (λ_=>[oS ["here","there","left","way","sign","met"] 438])::
iF 202 445 17 Iv "is_box" ["thing"] 57 1::
iF 209 452 18 Iv "is_number" ["thing"] 59 1::
iF 216 459 19 Iv "fits" ["box","thing"] 61 2::
iC 223 467 20 Iv "Boxes" 69 [("__init__","Boxes.__init__",["self","here","there","left","way","sign","met","handed","box","number"],71,7,[(⟨.type "tuple",none,.seq #[.int 0 479,.int 0 480,.int 0 481,.int 1 482,.int 0 483,.int 0 484] 0,#[]⟩,6)]),("holds","Boxes.holds",["self","box"],78,2,[]),("give","Boxes.give",["self","box","number"],83,3,[]),("told","Boxes.told",[],90,1,[]),("copied","Boxes.copied",["self","other"],93,1,[])] ["numbers"]::
iF 271 543 22 CG "check_box" ["word","box"] 98 2::
iF 278 551 23 CG "check_number" ["word","number"] 101 2::
iC 285 559 0 CG "Deed" 104 [] [] [.ref 329,.ref 362,.ref 395,.ref 428,.ref 461,.ref 529,.ref 555,.ref 581,.ref 607,.ref 633,.ref 659,.ref 1031]::
vn 299 579 25 CG "Set" 106 [("__init__","Set.__init__",["self","box","number"],108,3,[]),("step","Set.step",["self","boxes","store"],114,3,[]),("words","Set.words",["self"],118,1,[])] ["box","number"]::
vn 332 622 26 CG "Add" 120 [("__init__","Add.__init__",["self","box","number"],122,3,[]),("step","Add.step",["self","boxes","store"],128,3,[]),("words","Add.words",["self"],132,1,[])] ["box","number"]::
vn 365 665 27 CG "Take" 134 [("__init__","Take.__init__",["self","box","other"],136,3,[]),("step","Take.step",["self","boxes","store"],142,3,[]),("words","Take.words",["self"],146,1,[])] ["box","other"]::
vn 398 708 28 CG "Read" 148 [("__init__","Read.__init__",["self","box"],150,2,[]),("step","Read.step",["self","boxes","store"],154,3,[]),("words","Read.words",["self"],158,1,[])] ["box"]::
vn 431 749 29 CG "Write" 160 [("__init__","Write.__init__",["self","box"],162,2,[]),("step","Write.step",["self","boxes","store","number"],166,3,[]),("words","Write.words",["self"],173,1,[])] ["box"]::
iF 464 793 31 vw "more" ["boxes","box","by"] 176 3::
iF 471 802 32 vw "go_by_way" ["boxes","box"] 178 2::
iF 478 810 33 vw "less_left" ["boxes","by"] 180 2::
iF 485 818 34 vw "ask_put" ["store","cell"] 183 2::
iF 492 826 35 vw "haul" ["store","source","target","content"] 186 3::
iF 499 836 36 vw "exchange" ["store","one","other","first","second"] 189 3::
vn 506 847 37 vw "Copy" 196 [("step","Copy.step",["self","boxes","store"],198,3,[]),("words","Copy.words",["self"],206,1,[])] []::[]
abbrev jR:List It:=
vn 532 879 38 vw "Fill" 208 [("step","Fill.step",["self","boxes","store"],210,3,[]),("words","Fill.words",["self"],217,1,[])] []::
vn 558 911 39 vw "Seek" 219 [("step","Seek.step",["self","boxes","store"],221,3,[]),("words","Seek.words",["self"],232,1,[])] []::
vn 584 943 40 vw "Match" 234 [("step","Match.step",["self","boxes","store","content"],236,3,[]),("words","Match.words",["self"],249,1,[])] []::
vn 610 976 41 vw "Shift" 251 [("step","Shift.step",["self","boxes","store","left","here","there"],253,3,[]),("words","Shift.words",["self"],267,1,[])] []::
vn 636 1011 42 vw "Turn" 269 [("step","Turn.step",["self","boxes","store","left","here"],271,3,[]),("words","Turn.words",["self"],282,1,[])] []::
iE "MOST_ROWS" 1048 (.int 24 1047)::
iF 662 1049 45 Ic "check_rows" ["rows","at","thing"] 286 1::
iF 669 1058 46 Ic "check_place" ["at","many"] 292 2::
iF 676 1066 47 Ic "tried" ["deed","boxes","store","stop","refusal"] 295 3::
iC 683 1077 48 Ic "Machine" 302 [("__init__","Machine.__init__",["self","rows","store","boxes","at"],304,5,[(⟨.type "tuple",none,.seq #[.int 0 1089] 0,#[]⟩,1)]),("ended","Machine.ended",["self"],312,1,[]),("step_on","Machine.step_on",["self","store","by"],315,2,[]),("step","Machine.step",["self"],324,1,[]),("run","Machine.run",["self","most"],327,2,[]),("why","Machine.why",["self"],330,1,[]),("state","Machine.state",["self"],333,1,[]),("leaves","Machine.leaves",["self"],336,1,[]),("leave","Machine.leave",["self","low","behind","word"],339,4,[]),("rows","Machine.rows",[],342,1,[]),("copied","Machine.copied",["self"],345,1,[])] ["at","boxes","deeds","store"]::
iE "MOST_CELLS" 1191 (.int 60 1190)::
iF 773 1192 51 J9 "check_cells" ["cells","at","thing"] 349 1::
iC 780 1201 52 J9 "Store" 355 [("__init__","Store.__init__",["self","cells"],357,2,[]),("size","Store.size",["self"],362,1,[]),("told","Store.told",["self"],365,1,[]),("leaves","Store.leaves",["self"],368,1,[]),("leave","Store.leave",["self","low","behind","word"],371,4,[]),("may","Store.may",["self","deed","cell"],374,3,[]),("look","Store.look",["self","cell"],381,2,[]),("put","Store.put",["self","cell","content"],386,3,[]),("restore","Store.restore",["self","cell","content"],391,3,[]),("copied","Store.copied",["self","other"],394,1,[])] ["contents","permits"]::[]
abbrev HE:List It:=
iF 864 1307 54 Iy "looks_for_its_way" ["deed"] 400 1::
iF 871 1314 55 Iy "check_blind" ["rows","at","deed"] 402 1::
iC 878 1323 56 Iy "Origins" 406 [("__init__","Origins.__init__",[],408,2,[]),("may","Origins.may",["self","deed","cell"],411,3,[]),("look","Origins.look",["self","cell"],414,2,[]),("put","Origins.put",["self","cell","thing"],419,3,[]),("told","Origins.told",["self"],424,1,[])] ["sources"]::
iF 925 1383 57 Iy "shadows" ["rows","boxes","size","machine","origins","told"] 426 3::
iF 932 1397 59 CA "shadow_at" ["told","bell"] 436 2::
iF 939 1405 60 CA "content_of" ["origin","cells"] 438 2::
iF 946 1413 61 CA "first_box" ["one","other","at","box"] 440 2::
iF 953 1423 62 CA "first_cell" ["one","other","cells","cell"] 445 3::
iF 960 1433 63 CA "stores_to_try" ["size","stores","cell"] 450 1::
iF 967 1442 64 CA "least_store" [] 455 2::
iF 972 1448 65 CA "parted" ["bell","one","other","box","cells"] 457 3::
iF 979 1459 66 CA "alike" ["one","other","boxes","size","first","second","bell","left","right"] 463 4::
iE "MOST_HOPPED" 1477 (.int 24 1476)::
iF 986 1478 69 CV "is_many" ["thing"] 474 1::
iF 993 1485 70 CV "is_on" ["thing"] 476 1::
vn 1000 1492 71 CV "Hop" 478 [("__init__","Hop.__init__",["self","many","on"],480,3,[(⟨.type "tuple",none,.seq #[.none] 0,#[]⟩,0)]),("step","Hop.step",["self","boxes","store"],486,3,[]),("words","Hop.words",["self","told"],491,1,[])] ["many","on"]::
iF 1034 1538 73 eE "_law_hand" ["_law_script","_law_cells_here","_law_fold","_law_cell"] 497 1::
iF 1041 1548 74 eE "_law_draw" ["_law_hand_here","_law_many","_law_rest","_law_cell","_law_one","_law_two"] 503 2::
iF 1048 1560 75 eE "_law_content" ["_law_hand_here","_law_way"] 519 1::
iF 1055 1568 76 eE "_law_cells" [] 528 2::
iF 1060 1574 77 eE "_law_spot" ["_law_hand_here","_law_many","_law_way"] 536 2::
iF 1067 1583 78 eE "_law_six" ["_law_hand_here","_law_cells_here","_law_many","_law_way","_law_left","_law_sign","_law_here","_law_there"] 545 2::
iF 1074 1597 79 eE "_law_spec" ["_law_hand_here","_law_size","_law_way","_law_names","_law_box","_law_pick"] 556 2::
iF 1081 1609 80 eE "_law_deed" ["_law_spec_here","_law_word"] 574 1::
iF 1088 1617 81 eE "_law_rows" [] 593 2::
iF 1093 1623 82 eE "_law_boxes" ["_law_six_here"] 596 1::
iF 1100 1630 83 eE "_law_looker" ["_law_hand_here","_law_way"] 598 1::
iF 1107 1638 84 eE "_law_refused" ["_law_e"] 603 1::
iF 1114 1645 85 eE "_law_alike" ["_law_one","_law_two","_law_boxes_here","_law_size","_law_told","_law_e"] 607 4::
iF 1121 1657 86 eE "_law_shadowed" ["_law_rows_here","_law_boxes_here","_law_size","_law_told","_law_e"] 613 3::
iF 1128 1668 87 eE "_law_spoilt" ["_law_hand_here","_law_rows_here","_law_times","_law_first","_law_k","_law_at"] 619 3::[]
abbrev KH (P:Params):List Obj:=oW [(12,⟨.none,none,.fields (Jg Kh),#[]⟩),(294,⟨.type "type",none,.cls ⟨"Deed",[.type "object"],[.ref 294,.type "object"],293,"Deed",true,[],[.ref 329,.ref 362,.ref 395,.ref 428,.ref 461,.ref 529],false,none,false⟩,#[none,none,some (.str "Deed" 559),some (.str "Deed" 567),some (.builtin "object.__new__"),some (.bool true)]⟩)] (HV P "haulbell.longs" 791 42 zh)
abbrev Ks (P:Params):List Obj:=oW [(12,⟨.none,none,.fields (Jg JR),#[]⟩),(294,⟨.type "type",none,.cls ⟨"Deed",[.type "object"],[.ref 294,.type "object"],293,"Deed",true,[],[.ref 329,.ref 362,.ref 395,.ref 428,.ref 461,.ref 529,.ref 555,.ref 581,.ref 607,.ref 633,.ref 659],false,none,false⟩,#[none,none,some (.str "Deed" 559),some (.str "Deed" 567),some (.builtin "object.__new__"),some (.bool true)]⟩)] (HV P "haulbell.store" 1188 55 (zh++jR))
abbrev Km (P:Params):List Obj:=oW [(12,⟨.none,none,.fields (Jg Kw),#[]⟩)] (HV P "law_haulbell_k88_not_blind" 1536 86 (zh++jR++HE))
abbrev S0 (P:Params)(os:OsState):SharedT:=⟨FF 0 .nil (Kq P),15,(boot_heap P).life,Array.mk [],boot_drawn,187,os⟩
abbrev q0:Pos:=⟨0,0,0,0⟩
abbrev S1 (P:Params)(os:OsState):SharedT:=⟨FF 0 .nil (KH P),532,(boot_heap P).life,Array.mk [],boot_drawn,879,os⟩
abbrev q1:Pos:=⟨196,0,207,23⟩
abbrev S2 (P:Params)(os:OsState):SharedT:=⟨FF 0 .nil (Ks P),864,(boot_heap P).life,Array.mk [],boot_drawn,1305,os⟩
abbrev q2:Pos:=⟨355,0,398,20⟩
abbrev S3 (P:Params)(os:OsState):SharedT:=⟨FF 0 .nil (Km P),1135,(boot_heap P).life,Array.mk [],boot_drawn,1680,os⟩
abbrev q3:Pos:=⟨619,0,627,39⟩
abbrev KC (P:Params):List Obj:=HV P "law_haulbell_k88_not_blind" 1536 87 (zh++jR++HE++[iF 1135 1680 88 eE "law" [] 628 1])
abbrev K0 (P:Params):PySem.W.Frag:=HU.map λa=>(a,(KC P).getD a oN)
abbrev qd (p:Program):Program:=PySem.W.view p [88]
abbrev wR:List Str:="_wall"::"HaulError"::"NoStore"::"Stop"::"NoFit"::"NoBox"::"NoDeed"::"NoRows"::"NoPlace"::"NotBlind"::"BOUND"::"is_whole"::"is_content"::"NAMES"::"is_box"::"is_number"::"fits"::"Boxes"::"check_box"::"check_number"::"Deed"::"Set"::"Add"::"Take"::"Read"::"Write"::"more"::"go_by_way"::"less_left"::"ask_put"::"haul"::"exchange"::"Copy"::"Fill"::"Seek"::"Match"::"Shift"::"Turn"::"MOST_ROWS"::"check_rows"::"check_place"::"tried"::"Machine"::"MOST_CELLS"::"check_cells"::"Store"::"looks_for_its_way"::"check_blind"::"Origins"::"shadows"::"shadow_at"::"content_of"::"first_box"::"first_cell"::"stores_to_try"::"least_store"::"parted"::"alike"::"MOST_HOPPED"::"is_many"::"is_on"::"Hop"::"_law_hand"::"_law_draw"::"_law_content"::"_law_cells"::"_law_spot"::"_law_six"::"_law_spec"::"_law_deed"::"_law_rows"::"_law_boxes"::"_law_looker"::"_law_refused"::"_law_alike"::"_law_shadowed"::"_law_spoilt"::[]
end My
open PySem PySem.W in
set_option maxHeartbeats 0 in
def My.CQ (w:World)(os:OsState):My.runK treeTable My.pr w 11 (some (.ref 6)) 12 (My.Ih w.params os) (topStub My.pr)=some (My.S0 w.params os,⟨denote treeTable (.body (ac My.pr) (My.gZ My.pr)),.body (ac My.pr) (My.gZ My.pr),default,[My.JS]⟩):=by
  delta My.pr;rewrite[Fast.te2368527892694137696,Fast.te14364793385576792824]
  kernel_rfl
open PySem PySem.W in
set_option maxHeartbeats 0 in
def My.DO (w:World)(os:OsState)(B:List Stmt):My.runK treeTable My.pr w 11 (some (.ref 6)) 5021 (My.S0 w.params os) (My.jI My.pr (((ac My.pr).drop 0).take 38++B) My.q0)=some (My.S1 w.params os,My.jI My.pr B My.q1):=by
  delta My.pr;rewrite[Fast.te2368527892694137696,Fast.te14364793385576792824]
  kernel_rfl
open PySem PySem.W in
set_option maxHeartbeats 0 in
def My.E3 (w:World)(os:OsState)(B:List Stmt):My.runK treeTable My.pr w 11 (some (.ref 6)) 2603 (My.S1 w.params os) (My.jI My.pr (((ac My.pr).drop 38).take 15++B) My.q1)=some (My.S2 w.params os,My.jI My.pr B My.q2):=by
  delta My.pr;rewrite[Fast.te2368527892694137696,Fast.te14364793385576792824]
  kernel_rfl
open PySem PySem.W in
set_option maxHeartbeats 0 in
def My.C7 (w:World)(os:OsState)(B:List Stmt):My.runK treeTable My.pr w 11 (some (.ref 6)) 1576 (My.S2 w.params os) (My.jI My.pr (((ac My.pr).drop 53).take 35++B) My.q2)=some (My.S3 w.params os,My.jI My.pr B My.q3):=by
  delta My.pr;rewrite[Fast.te2368527892694137696,Fast.te14364793385576792824]
  kernel_rfl
open PySem PySem.W in
set_option maxHeartbeats 0 in
def My.HP:LeftO My.pr (My.qd My.pr) My.wR (λs=>xlAt (My.qd My.pr) [] s&&recOk PySem.Challenge.rw_haulbell_k88_not_blind.row.records s) (λs=>My.HU.map s.heap.get?) (λw=>(My.K0 w.params).map λp=>some p.2) 18578:=by
  refine My.vh (by kernel_rfl) rfl (λ_=>by kernel_rfl) (λ_=>by kernel_rfl) (λ_=>by kernel_rfl) λw os=>?_
  have d:denote treeTable (.body (ac My.pr) (My.gZ My.pr))=My.AD My.pr (ac My.pr):=My.wN (by kernel_rfl);have e:My.kf treeTable My.pr w 11 (some (.ref 6)) (12+(5021+(2603+(1576+(9366))))) (My.Ih w.params os) (topStub My.pr)=My.kf treeTable My.pr w 11 (some (.ref 6)) 9366 (My.S3 w.params os) (My.jI My.pr ((ac My.pr).drop 88) My.q3):=by
    rw[My.cL (My.CQ w os)];dsimp only;rw[d];show My.kf treeTable My.pr w 11 (some (.ref 6)) _ (My.S0 w.params os) (My.jI My.pr ((ac My.pr).drop 0) My.q0)=_;rw[show(ac My.pr).drop 0=((ac My.pr).drop 0).take 38++(ac My.pr).drop 38 from by
      rw[show(ac My.pr).drop 38=((ac My.pr).drop 0).drop 38 by rw[List.drop_drop],List.take_append_drop],My.cL (My.DO w os _)]
    rw[show(ac My.pr).drop 38=((ac My.pr).drop 38).take 15++(ac My.pr).drop 53 from by
      rw[show(ac My.pr).drop 53=((ac My.pr).drop 38).drop 15 by rw[List.drop_drop],List.take_append_drop],My.cL (My.E3 w os _)]
    rw[show(ac My.pr).drop 53=((ac My.pr).drop 53).take 35++(ac My.pr).drop 88 from by
      rw[show(ac My.pr).drop 88=((ac My.pr).drop 53).drop 35 by rw[List.drop_drop],List.take_append_drop],My.cL (My.C7 w os _)]
  rw[show(18578:Nat)=12+(5021+(2603+(1576+(9366)))) from rfl,e]
  delta My.pr;rewrite[Fast.te4187177175401517315,Fast.te5923862056798008813,Fast.te2368527892694137696,Fast.te14364793385576792824]
  kernel_rfl
set_option Elab.async false
open List(mem_range filterMap_cons mem_cons_self mem_cons_of_mem mem_cons mem_append mem_append_left getElem?_set_self getElem?_set_ne mem_append_right size_toArray any_eq_false length_cons map_cons length_map append_nil nodup_cons of_mem_zip length_take getElem?_append_right getElem?_replicate getElem?_append_left getElem?_map take_sublist mem_of_getElem? length_append length_replicate length_drop length_set all_cons any_cons replicate_succ flatten_cons append_assoc foldl_cons length_singleton nil_append find?_cons length_nil forIn_cons forIn_nil getElem?_eq_getElem drop_zero lookup_cons not_mem_nil length_zip all_eq_true length_eq_zero_iff getElem?_eq_none zip_cons_cons zip_append take_append_drop isEmpty_iff mem_singleton getElem?_of_mem map_append reverse_append)
@[reducible]def KY:Type:=Option PySem.Value->PySem.Shared->Prop
@[reducible]def KZ:Type:=Unit->PySem.Shared->Prop
@[reducible]def K1:Type:=PySem.Value->PySem.Shared->Prop
@[reducible]def K2:Type:=List (PySem.Addr×PySem.Obj)
@[reducible]def K3:Type:=PySem.Str->Option PySem.Value
namespace L2
open PySem PySem.Spec PyProof.Rows
@[reducible]def Key:=Sum Int Str
abbrev lu:Key->Value->Bool
 | .inl k,v=>Value.isInt k v
 | .inr x,v=>Value.isStrOf x v
abbrev JC (w:World):Key->Int
 | .inl k=>hashInt k
 | .inr x=>hashStr w x
def aA:∀ {k:Key}{v:Value},lu k v=true->(∃ i t,k=Sum.inl i/\v=Value.int i t)\/(∃ x t,k=Sum.inr x/\v=Value.str x t)
 | .inl i,v,h=>by
  obtain⟨t,e⟩:=Value.isInt_shape (k:=i) (v:=v) h;exact .inl ⟨i,t,rfl,e⟩
 | .inr x,v,h=>by
  obtain⟨t,e⟩:=Value.isStrOf_shape (x:=x) (v:=v) h;exact .inr ⟨x,t,rfl,e⟩
def uQ (i:Int)(t:Tok):lu (.inl i) (.int i t)=true:=by simp[lu,Value.isInt]
def t9 (x:Str)(t:Tok):lu (.inr x) (.str x t)=true:=by simp[lu,Value.isStrOf]
def Dw (a b:Int):decide ((Sum.inl a:Key)=Sum.inl b)=(a ==b):=by
 by_cases e:a=b
 .subst e;simp
 .have h:¬ (Sum.inl a:Key)=Sum.inl b:=λq=>e (Sum.inl.inj q)
  rw[decide_eq_false h];exact(beq_eq_false_iff_ne.mpr e).symm
def E9 (a b:Str):decide ((Sum.inr a:Key)=Sum.inr b)=decide (a=b):=by
 by_cases e:a=b
 .subst e;simp
 .have h:¬ (Sum.inr a:Key)=Sum.inr b:=λq=>e (Sum.inr.inj q)
  rw[decide_eq_false h,decide_eq_false e]
def CS (a:Int)(b:Str):decide ((Sum.inl a:Key)=Sum.inr b)=false:=decide_eq_false (λq=>nomatch q)
def C8 (a:Str)(b:Int):decide ((Sum.inr a:Key)=Sum.inl b)=false:=decide_eq_false (λq=>nomatch q)
abbrev ao (prog:Program)(w:World):PySem.KeyKind prog w Key where
 is:=lu
 hash:=JC w
 inj:=λv a b ha hb=>by
  rcases aA ha with⟨i,t,rfl,rfl⟩|⟨x,t,rfl,rfl⟩
  .rcases aA hb with⟨j,u,rfl,e⟩|⟨y,u,rfl,e⟩
   .injection e with e1 _;rw[e1]
   .exact nomatch e
  .rcases aA hb with⟨j,u,rfl,e⟩|⟨y,u,rfl,e⟩
   .exact nomatch e
   .injection e with e1 _;rw[e1]
 byValue:=λk v h=>by
  rcases aA h with⟨i,t,rfl,rfl⟩|⟨x,t,rfl,rfl⟩<;>rfl
 pyHash:=λhv h=>by
  rcases aA hv with⟨i,t,rfl,rfl⟩|⟨x,t,rfl,rfl⟩
  .exact wpAny_pyHash_int h
  .exact wpAny_pyHash_str h
 eqBool:=λhu hv h=>by
  rcases aA hu with⟨i,t,rfl,rfl⟩|⟨x,t,rfl,rfl⟩
  .rcases aA hv with⟨j,u,rfl,rfl⟩|⟨y,u,rfl,rfl⟩
   .rw[Dw]at h;exact wpAny_eqBool_int h
   .rw[CS]at h;exact SeqAt.EqAt.int_str i t y u _ _ _ _ h
  .rcases aA hv with⟨j,u,rfl,rfl⟩|⟨y,u,rfl,rfl⟩
   .rw[C8]at h;exact SeqAt.EqAt.str_int x t j u _ _ _ _ h
   .rw[E9]at h;exact wpAny_eqBool_str h
 «strs»:=λk x t v h=>by
  rcases aA h with⟨i,u,rfl,e⟩|⟨y,u,rfl,e⟩
  .exact nomatch e
  .injection e with e1 _
   subst e1;cases v<;>rfl
def qc (prog:Program)(w:World)(i:Int)(t:Tok):(ao prog w).is (.inl i) (.int i t)=true:=uQ i t
def qb (prog:Program)(w:World)(x:Str)(t:Tok):(ao prog w).is (.inr x) (.str x t)=true:=t9 x t
inductive V where
 |non|bl (b:Bool)|int (i:Int)|str (x:Str)|byt (b:Array UInt8)|flt (b:UInt64)|ref (a:Addr)|ty (n:String)
 deriving DecidableEq
abbrev RelV:V->Value->Prop
 | .non,u=>u=Value.none
 | .bl b,u=>u=Value.bool b
 | .int i,u=>∃ t,u=Value.int i t
 | .str x,u=>∃ t,u=Value.str x t
 | .byt b,u=>∃ t,u=Value.bytes b t
 | .flt b,u=>∃ t,u=Value.float b t
 | .ref a,u=>u=Value.ref a
 | .ty n,u=>u=Value.type n
@[reducible]def Vals:List V->List Value->Prop:=Paired RelV
variable {xs:List V}{us:List Value}
def Vals.length (r:Vals xs us):xs.length=us.length:=Paired.length r
def Vals.get:∀ {xs:List V}{us:List Value}{i:Nat}{x:V},Vals xs us->xs[i]? =some x->∃ u,us[i]? =some u/\RelV x u
 |_,_,_,_,.nil,e=>by simp at e
 |_,_,0,_,.cons r _,e=>by simp at e;subst e;exact⟨_,rfl,r⟩
 |_,_,i+1,x,.cons _ t,e=>by
  obtain⟨u,h1,h2⟩:=Vals.get (i:=i) (x:=x) t (by simpa using e);exact⟨u,by simpa using h1,h2⟩
variable {u:Value}
def Vals.set {x:V}(r:RelV x u):∀ {xs:List V}{us:List Value}(i:Nat),Vals xs us->Vals (xs.set i x) (us.set i u)
 |_,_,_,.nil=>.nil
 |_,_,0,.cons _ t=>.cons r t
 |_,_,i+1,.cons q t=>.cons q (Vals.set r i t)
def Vals.append:∀ {xs ys:List V}{us ws:List Value},Vals xs us->Vals ys ws->Vals (xs++ys) (us++ws)
 |_,_,_,_,.nil,s=>s
 |_,_,_,_,.cons r t,s=>.cons r (Vals.append t s)
def Vals.take:∀ {xs:List V}{us:List Value}(n:Nat),Vals xs us->Vals (xs.take n) (us.take n)
 |_,_,0,_=>.nil
 |_,_,_+1,.nil=>.nil
 |_,_,n+1,.cons r t=>.cons r (Vals.take n t)
def Vals.drop:∀ {xs:List V}{us:List Value}(n:Nat),Vals xs us->Vals (xs.drop n) (us.drop n)
 |_,_,0,r=>r
 |_,_,_+1,.nil=>.nil
 |_,_,n+1,.cons _ t=>Vals.drop n t
abbrev cG:Option V->Option Value->Prop
 |some v,some u=>RelV v u
 |none,none=>True
 |_,_=>False
abbrev KV {κ:Type}:List (κ×V)->List (κ×Value)->Prop:=Paired λ(p:κ×V) (q:κ×Value)=>p.1=q.1/\RelV p.2 q.2
abbrev kV:Key->V
 | .inl i=>.int i
 | .inr x=>.str x
inductive HO where
  |lst (xs:List V)
  |tup (xs:List V)
  |dK (kvs:List (Key×V))|dT (kvs:List (List Key×V))
  |set (S:Int->Bool) (n:Nat)
  |ins (C dx:Addr) (fs:List (Str×V))
  |own (x:Addr)
  |exc (C:Addr) (dx:Option Addr) (fs:List (Str×V)) (fr:Bool)
  |xd (fs:List (Str×V))
  |met (f x:Addr)
  |rng (lo hi:Int)
  |iJ (o:Obj) (u:HO)
  |tbl (ps:Array Value)
  |ext (φ:Heap->Prop)
@[reducible]def Hp:=Addr->Option HO
abbrev upd (H:Hp)(a:Addr)(o:HO):Hp:=λb=>if b=a then some o else H b
variable {H:Hp}{a:Addr}{o:HO}
def av:upd H a o a=some o:=by unfold upd;rw[if_pos rfl]
variable {b:Addr}
def af (h:b≠a):upd H a o b=H b:=by unfold upd;rw[if_neg h]
def zd {u:HO}:upd (upd H a o) a u=upd H a u:=by
 funext b;unfold upd;split<;>rfl
def HN {u:HO}(h:H a=some o)(h':H b=some u)(d:o≠u):a≠b:=by
 intro e;subst e;rw[h]at h';exact d (Option.some.inj h')
def aC (h:H a=some o)(h':H b=none):a≠b:=by
 intro e;subst e;rw[h]at h';cases h'
section
variable (P:Program) (w:World)
abbrev au (H:Hp)(h:Heap)(a:Addr):HO->Prop
 | .lst xs=>xs.length<=bn/\∃ (its:List Value) (n:Nat),Vals xs its/\h.get? a=some { cls:=.type "list",data:=.seq its.toArray n }
 | .tup xs=>xs.length<=bn/\∃ its:List Value,Vals xs its/\IsTup h a its.toArray
 | .dK kvs=>kvs.length<=bn/\(a ==sysModules)=false/\∃ vs,KV kvs vs/\h.DictOf (ao P w) a vs
 | .dT kvs=>kvs.length<=bn/\(a ==sysModules)=false/\∃ xs:List (List Key×Addr×Value),
   Paired (λ(p:List Key×V) (q:List Key×Addr×Value)=>p.1=q.1/\H q.2.1=some (.tup (p.1.map kV))/\RelV p.2 q.2.2) kvs xs/\
   ∃ o es ep,h.get? a=some o/\o.ExactDict/\o.data=.dict es ep/\es.toList=xs.map (entryOfKey (tupleKind (ao P w)))/\(xs.map (·.1)).Nodup
 | .set S n=>h.SetOf (intKind P w) a S n
 | .ins C dx fs=>H dx=some (.own a)/\fs.length<=1000/\dx≠a/\h.get? a=some (W.instObj C dx)/\
   ∃ mA,h.Ns1 dx mA/\(∀ f,cG (fs.lookup f) (mA f))/\PySem.Within mA (fs.map (·.1))
 | .exc C dx fs fr=>(∃ vs,h.get? a=some { cls:=.ref C,dict:=dx,data:=.fields vs }/\vs.size=6/\(fr=true->vs[1]? =some Value.none)/\vs[2]? =some Value.none)/\
   ((dx=none/\fs=[])\/∃ d,dx=some d/\H d=some (.own a)/\fs.length<=1000/\d≠a/\∃ mA,h.Ns1 d mA/\(∀ f,cG (fs.lookup f) (mA f))/\PySem.Within mA (fs.map (·.1)))
 | .own _=>∃ o,h.get? a=some o
 | .xd fs=>∃ mA,h.Ns1 a mA/\∀ f,cG (fs.lookup f) (mA f)
 | .rng lo hi=>∃ t u v,h.get? a=some { cls:=.type "range",data:=.fields #[.int lo t,.int hi u,.int 1 v] }
 | .iJ o u=>h.get? a=some o/\au H h a u
 | .tbl ps=>h.get? a=some { cls:=.none,data:=.fields ps }
 | .met f x=>h.get? a=some (W.methodObj (.ref f) (.ref x))
 | .ext φ=>φ h/\(∃ o,h.get? a=some o)/\∀ h1 h2:Heap,φ h1->(∀ o,h1.get? a=some o->h2.get? a=some o)->φ h2
abbrev fw (H:Hp)(h:Heap):Prop:=∀ a o,H a=some o->au P w H h a o
end
section
variable {P:Program}{w:World}{H H':Hp}{h h':Heap}{a:Addr}{o:HO}
def au.lt (x:au P w H h a o):a<h.objs.size:=by
 cases o with
 |lst xs=>obtain⟨_,_,_,_,e⟩:=x;exact ut e
 |tup xs=>obtain⟨_,_,_,p⟩:=x;exact p.lt
 |dK kvs=>obtain⟨_,_,_,_,o,_,_,e,_⟩:=x;exact ut e
 |dT kvs=>obtain⟨_,_,_,_,o,_,_,e,_⟩:=x;exact ut e
 |set S n=>obtain⟨o,_,_,_,e,_⟩:=x;exact ut e
 |ins C dx fs=>obtain⟨_,_,_,e,_⟩:=x;exact ut e
 |exc C dx fs fr=>obtain⟨⟨_,e,_⟩,_⟩:=x;exact ut e
 |own y=>obtain⟨_,e⟩:=x;exact ut e
 |xd fs=>obtain⟨_,⟨_,_,_,e,_⟩,_⟩:=x;exact ut e
 |rng lo hi=>obtain⟨_,_,_,e⟩:=x;exact ut e
 |iJ ob u=>obtain⟨e,_⟩:=x;exact ut e
 |tbl ps=>exact ut (show h.get? a=some _ from x)
 |met f y=>exact ut (show h.get? a=some _ from x)
 |ext φ=>obtain⟨_,⟨_,e⟩,_⟩:=x;exact ut e
def Paired.DF {α β:Type}{F G:α->β->Prop}:∀ {l₁:List α}{l₂:List β},Paired F l₁ l₂->(∀ a b,F a b->G a b)->Paired G l₁ l₂
 |_,_,.nil,_=>.nil
 |_,_,.cons r t,f=>.cons (f _ _ r) (Paired.DF t f)
def au.du (x:au P w H h a o)(k:∀ b u,(b=a\/H b=some (.own a))->h.get? b=some u->h'.get? b=some u)
  (ho:∀ b,H b=some (.own a)->H' b=some (.own a)) (ht:∀ b xs,H b=some (.tup xs)->H' b=some (.tup xs)):au P w H' h' a o:=by
 induction o with
 |lst xs=>obtain⟨z,its,n,r,e⟩:=x;exact⟨z,its,n,r,k _ _ (.inl rfl) e⟩
 |tup xs=>obtain⟨z,its,r,ob,e,c⟩:=x;exact⟨z,its,r,ob,k _ _ (.inl rfl) e,c⟩
 |dK kvs=>obtain⟨z,y,vs,r,ob,es,ep,e,c⟩:=x;exact⟨z,y,vs,r,ob,es,ep,k _ _ (.inl rfl) e,c⟩
 |dT kvs=>
  obtain⟨z,y,xs,r,ob,es,ep,e,c⟩:=x;exact⟨z,y,xs,Paired.DF r λp q z=>⟨z.1,ht _ _ z.2.1,z.2.2⟩,ob,es,ep,k _ _ (.inl rfl) e,c⟩
 |set S n=>obtain⟨ob,es,ep,t,e,c⟩:=x;exact⟨ob,es,ep,t,k _ _ (.inl rfl) e,c⟩
 |ins C dx fs=>
  obtain⟨d,z,ne,e,mA,⟨od,es,ep,e2,c⟩,r⟩:=x;exact⟨ho _ d,z,ne,k _ _ (.inl rfl) e,mA,⟨od,es,ep,k _ _ (.inr d) e2,c⟩,r⟩
 |exc C dx fs fr=>
  obtain⟨⟨vs,e,z⟩,q⟩:=x;refine⟨⟨vs,k _ _ (.inl rfl) e,z⟩,?_⟩;rcases q with q|⟨d,ed,d1,z1,ne,mA,⟨od,es,ep,e2,c⟩,r⟩
  .exact .inl q
  .exact .inr ⟨d,ed,ho _ d1,z1,ne,mA,⟨od,es,ep,k _ _ (.inr d1) e2,c⟩,r⟩
 |own y=>obtain⟨ob,e⟩:=x;exact⟨ob,k _ _ (.inl rfl) e⟩
 |xd fs=>obtain⟨mA,⟨od,es,ep,e,c⟩,r⟩:=x;exact⟨mA,⟨od,es,ep,k _ _ (.inl rfl) e,c⟩,r⟩
 |rng lo hi=>obtain⟨t,u,v,e⟩:=x;exact⟨t,u,v,k _ _ (.inl rfl) e⟩
 |iJ ob u ih=>obtain⟨e,q⟩:=x;exact⟨k _ _ (.inl rfl) e,ih q⟩
 |tbl ps=>
  have e:h.get? a=some { cls:=.none,data:=.fields ps }:=x;show h'.get? a=some { cls:=.none,data:=.fields ps };exact k a _ (.inl rfl) e
 |met f y=>
  have e:h.get? a=some (W.methodObj (.ref f) (.ref y)):=x;show h'.get? a=some (W.methodObj (.ref f) (.ref y));exact k a _ (.inl rfl) e
 |ext φ=>obtain⟨p,⟨o,e⟩,st⟩:=x;exact⟨st _ _ p λo q=>k _ _ (.inl rfl) q,⟨o,k _ _ (.inl rfl) e⟩,st⟩
def fw.lt (x:fw P w H h)(e:H a=some o):a<h.objs.size:=(x a o e).lt
def fw.fresh (x:fw P w H h)(e:h.objs.size<=a):H a=none:=by
 cases q:H a with
 |none=>rfl
 |some u=>exact absurd (nw (x.lt q) e) (Nat.lt_irrefl _)
def fw.kept (x:fw P w H h)(k:∀ b u,h.get? b=some u->h'.get? b=some u):fw P w H h':=λa o e=>
 (x a o e).du (λb u _ q=>k b u q) (λ_ q=>q) λ_ _ q=>q
def fw.laid (x:fw P w H h)(k:∀ b u,h.get? b=some u->h'.get? b=some u) (hp:h.objs.size<=a) (new:au P w (upd H a o) h' a o):fw P w (upd H a o) h':=λb u e=>by
 have hn:=x.fresh hp
 by_cases hb:b=a
 .subst hb;rw[av]at e;cases e;exact new
 .rw[af hb]at e;exact(x b u e).du (λc v _ q=>k c v q) (λc q=>by rw[af (aC q hn)];exact q) λc xs q=>by rw[af (aC q hn)];exact q
end
abbrev Rd (H:Hp)(a:Addr)(u:HO):Prop:=H a=some u\/∃ o,H a=some (.iJ o u)
variable {P:Program}{w:World}{h:Heap}
def Rd.ok {u:HO}(r:Rd H a u)(x:fw P w H h):au P w H h a u:=by
 rcases r with r|⟨o,r⟩
 .exact x a u r
 .obtain⟨_,q⟩:=x a _ r;exact q
abbrev FE:Option HO->Prop
 |some (.lst _)=>True
 |some (.dK _)=>True
 |some (.dT _)=>True
 |some (.set _ _)=>True
 |some (.ins _ _ _)=>True
 |some (.exc _ _ _ fr)=>fr=true
 |some (.ext _)=>True
 |_=>False
abbrev Fix:HO->Prop
 | .iJ _ _=>True
 | .exc _ _ _ fr=>fr=false
 |_=>False
def Fix.KA {u:HO}(f:Fix u):¬ FE (some u):=by
 cases u<;>first|exact f.elim|exact λz=>z.elim|exact λz=>Bool.noConfusion (z.symm.trans f)
section
variable {P:Program}{w:World}{H:Hp}{h h':Heap}{x e:Addr}{o':HO}
def fw.write (ok:fw P w H h)(mu:FE (H x))(he:e=x\/H e=some (.own x))(k:∀ b u,b≠e->h.get? b=some u->h'.get? b=some u) (heo:∃ u,h'.get? e=some u)
  (new:au P w (upd H x o') h' x o'):fw P w (upd H x o') h':=λb u q=>by
 have nown:∀ c y,H c=some (.own y)->c≠x:=λc y r z=>by subst z;rw[r]at mu;exact mu
 have ntup:∀ c xs,H c=some (.tup xs)->c≠x:=λc xs r z=>by subst z;rw[r]at mu;exact mu
 by_cases hb:b=x
 .subst hb;rw[av]at q;cases q;exact new
 .rw[af hb]at q
  by_cases hbe:b=e
  .have q':H b=some (.own x):=by
    rcases he with z|z
    .exact absurd (hbe.trans z) hb
    .rw[hbe];exact z
   rw[q]at q';cases q';obtain⟨v,hv⟩:=heo;exact⟨v,by rw[hbe];exact hv⟩
  .refine(ok b u q).du (λc v hc r=>k c v ?_ r) (λc r=>by rw[af (nown c b r)];exact r) λc xs r=>by rw[af (ntup c xs r)];exact r
   rcases hc with rfl|hc
   .exact hbe
   .rintro rfl;rcases he with z|z
    .exact nown c b hc z
    .rw[hc]at z;cases z;exact hb rfl
end
structure Un (fs ex:List Addr) (H H':Hp) (h h':Heap):Prop where
 keep:∀ b o,h.get? b=some o->H b=none->b ∉ fs->b ∉ ex->h'.get? b=some o
 slot:∀ b o,h.get? b=some o->H b=none->b ∈ fs->b ∉ ex->∃ sl,h'.get? b=some { o with slots:=sl }
 free:∀ b o,h.get? b=some o->H b=none->b ∉ ex->H' b=none
 there:∀ b o,h.get? b=some o->b ∉ ex->∃ o',h'.get? b=some o'
 tups:∀ b xs,H b=some (.tup xs)->H' b=some (.tup xs)
 frzs:∀ b u,Fix u->H b=some u->H' b=some u
 tbls:∀ b ps,H b=some (.tbl ps)->∃ more,H' b=some (.tbl (ps++more))
section
variable {fs fs' ex ex':List Addr}{H H1 H2:Hp}{h h1 h2 h':Heap}{a x e:Addr}{o:HO}
def Un.any (u:Un fs ex H H1 h h1){ob:Obj}(q:h.get? b=some ob)(n:H b=none)(hx:b ∉ ex):∃ sl,h1.get? b=some { ob with slots:=sl }:=by
 by_cases hb:b ∈ fs
 .exact u.slot b ob q n hb hx
 .exact⟨ob.slots,u.keep b ob q n hb hx⟩
def Un.kept (k:∀ b u,h.get? b=some u->h'.get? b=some u):Un fs ex H H h h':=
 ⟨λb ob q _ _ _=>k b ob q,λb ob q _ _ _=>⟨ob.slots,k b ob q⟩,λ_ _ _ n _=>n,λb ob q _=>⟨ob,k b ob q⟩,λ_ _ q=>q,λ_ _ _ q=>q,λ_ ps q=>⟨#[],by rw[q];simp⟩⟩
def Un.refl:Un fs ex H H h h:=Un.kept λ_ _ q=>q
def Un.laid (k:∀ b u,h.get? b=some u->h'.get? b=some u) (hp:h.objs.size<=a) (hn:H a=none):Un fs ex H (upd H a o) h h' where
 keep:=λb u q _ _ _=>k b u q
 slot:=λb u q _ _ _=>⟨u.slots,k b u q⟩
 free:=λb u q n _=>by rw[af (pi (nw (ut q) hp))];exact n
 there:=λb u q _=>⟨u,k b u q⟩
 tups:=λb xs q=>by rw[af (aC q hn)];exact q
 frzs:=λb u xs q=>by rw[af (aC q hn)];exact q
 tbls:=λb ps q=>⟨#[],by rw[af (aC q hn),q];simp⟩
def Un.write (mu:FE (H x))(he:e=x\/H e=some (.own x))(k:∀ b u,b≠e->h.get? b=some u->h'.get? b=some u) (heo:∃ u,h'.get? e=some u):Un fs ex H (upd H x o) h h':=by
 have hx:∀ b,H b=none->b≠x:=λb n z=>by subst z;rw[n]at mu;exact mu
 have hb:∀ b,H b=none->b≠e:=λb n z=>by
  subst z;rcases he with r|r
  .exact hx b n r
  .rw[n]at r;cases r
 have hm:∀ b u,H b=some u->¬ FE (some u)->b≠x:=λb u q nm z=>by subst z;rw[q]at mu;exact nm mu
 refine⟨λb u q n _ _=>k b u (hb b n) q,λb u q n _ _=>⟨u.slots,k b u (hb b n) q⟩,λb u q n _=>by rw[af (hx b n)];exact n,λb u q _=>?_,
  λb xs q=>by rw[af (hm b _ q λz=>z)];exact q,λb u xs q=>by rw[af (hm b _ q xs.KA)];exact q,λb ps q=>⟨#[],by rw[af (hm b _ q λz=>z),q];simp⟩⟩
 by_cases hbe:b=e
 .subst hbe;exact heo
 .exact⟨u,k b u hbe q⟩
end
abbrev Ck (h:Heap)(H:Hp):List Addr:=(List.range h.objs.size).filter λa=>(H a).isSome
abbrev mN (h:Heap)(H:Hp):Heap:=W.hideAll h (Ck h H)
def uI (h:Heap)(H:Hp):(mN h H).objs.size=h.objs.size:=W.hideAll_size _ _
def vX {o:Obj}(e:h.get? b=some o)(n:H b=none):(mN h H).get? b=some o:=
 W.hideAll_get _ e λhm=>by
  have q:(H b).isSome=true:=(List.mem_filter.mp hm).2;rw[n]at q;simp at q
def zg {o:Obj}(e:(mN h H).get? b=some o):h.get? b=some o/\H b=none:=by
 have e':h.get? b=some o:=W.of_hideAll (Ck h H) e;refine⟨e',?_⟩;cases q:H b with
 |none=>rfl
 |some x=>
  have hm:b ∈ Ck h H:=List.mem_filter.mpr ⟨mem_range.mpr (ut e'),by simp[q]⟩;have z:(mN h H).get? b=none:=W.hideAll_none (Ck h H) hm;rw[z]at e;cases e
structure Mod (K:W.Frag) (mg:K3) (base:Heap):Prop where
 kin:K.In base
 glob:base.Ns mainGlobals mg
 blt:∃ mb,base.Ns builtinsNs mb/\∀ x:Str,x≠"__name__"->mb x=bootBuiltins x
 nolimit:base.NoLimit
/-- the context:a def's body (or a comprehension's block) running. base:fixed through the whole law;s₀,H₀:the entry;outer:the frames whose slots others may change (a def's callers);stack:all frames that run;
  ex:iterators that were made ahead of the entry and are walked here (a comprehension's);fn:the names whose cells were made at the entry (a def:all;a comprehension's block:its own);calm:not within an except aH;pn:Y that every state bears;xe:what is wanted of an exception that leaves the code -/
structure Cx where
 prog:Program
 w:World
 K:W.Frag
 mg:Str->Option Value
 base:Heap
 A:Around
 N:List Str
 s₀:Shared
 H₀:Hp
 env:Env
 outer:List Env
 stack:List Env
 ex:List Addr
 fn:Str->Bool
 calm:Bool
 pn:List (Addr×Obj)
 xe:Value->Shared->Prop
abbrev nD (l:List Env):List Addr:=l.filterMap (·.frame)
noncomputable abbrev Cx.fs (X:Cx):List Addr:=nD X.outer
abbrev Io (sc:Scope)(x:Str):Prop:=sc.names.lookup x=some .local\/sc.names.lookup x=some .cell\/sc.names.lookup x=some .free
abbrev Loc (sc:Scope)(x:Str):Prop:=sc.names.lookup x=some .local\/sc.names.lookup x=some .cell
abbrev Look (env:Env)(h:Heap)(m:K3)(x:Str)(u:Value):Prop:=
 (env.kindOf x=some .local/\m x=some u)\/((env.kindOf x=some .cell\/env.kindOf x=some .free)/\∃ c,env.cells.lookup x=some c/\h.IsCell c (some u))
structure Cx.Ok (X:Cx):Prop where
 mod:Mod X.K X.mg X.base
 kind:X.env.scope.kind=.function
 glob:X.env.globals=mainGlobals
 blt:X.env.builtins=builtinsNs
 above:X.s₀.heap.objs.size<=X.env.locals
 inj:∀ x y c,X.env.cells.lookup x=some c->X.env.cells.lookup y=some c->x=y
 has:∀ x,(X.env.kindOf x=some .cell\/X.env.kindOf x=some .free)->∃ c,X.env.cells.lookup x=some c
 cab:∀ x c,X.fn x=true->X.env.cells.lookup x=some c->X.s₀.heap.objs.size<=c
 hd:X.calm=true->X.A.handled=none
 frames:X.A.frames=some X.stack
 stk:X.stack=X.outer\/(X.stack=X.env::X.outer/\X.env.frame=some X.env.locals)
 exf:∀ b ∈ X.ex,b≠X.env.locals/\∀ x c,X.env.cells.lookup x=some c->c≠b
 bs:∀ b o,X.base.get? b=some o->X.s₀.heap.get? b=some o/\X.H₀ b=none
 bsz:X.base.objs.size<=X.s₀.heap.objs.size
 noex:∀ b o,X.base.get? b=some o->b ∉ X.ex
 exfs:∀ b ∈ X.ex,b ∉ X.fs
 g6:X.s₀.heap.FunFrames X.base X.outer
 frf:∀ b ∈ X.fs,X.H₀ b=none
structure Inv (X:Cx) (Y:K2) (U:List (Option V)) (H:Hp) (s:Shared):Prop where
 ok:X.Ok
 os:s.os=X.s₀.os
 bare:AllBare s.gens
 base:Un X.fs X.ex X.H₀ H X.s₀.heap s.heap
 loc:∃ m,s.heap.Ns X.env.locals m/\∀ (i:Nat) (x:Str) (v:V),X.N[i]? =some x->U[i]? =some (some v)->Io X.env.scope x->∃ u,RelV v u/\Look X.env s.heap m x u
 cell:∀ x c,X.env.cells.lookup x=some c->∃ v,s.heap.IsCell c v
 free:H X.env.locals=none
 freeC:∀ x c,X.env.cells.lookup x=some c->H c=none
 pin:∀ p ∈ X.pn++Y,s.heap.get? p.1=some p.2/\H p.1=none/\p.1≠X.env.locals/\p.1 ∉ X.fs/\∀ v,p.2.data≠.cell v
 hok:fw X.prog X.w H s.heap
 len:U.length=X.N.length
variable {x:Str}{g':Array GenState}{ch:List Addr}{i:Nat}{M:Model}{A:Around}{E:K1}{v:V}
section
variable {X:Cx}{Y:K2}{U:List (Option V)}{H H':Hp}{s:Shared}{h':Heap}
def Cx.Ok.IM (ok:X.Ok){o:Obj}(e:X.base.get? b=some o):b ∉ X.fs:=λhb=>by
 have:=(ok.g6.mem hb).1;rw[e]at this;cases this
def Inv.bs (I:Inv X Y U H s):∀ b o,X.base.get? b=some o->s.heap.get? b=some o/\H b=none:=λb o e=>
 ⟨I.base.keep b o (I.ok.bs b o e).1 (I.ok.bs b o e).2 (I.ok.IM e) (I.ok.noex b o e),I.base.free b o (I.ok.bs b o e).1 (I.ok.bs b o e).2 (I.ok.noex b o e)⟩
def Inv.bk (I:Inv X Y U H s):∀ b o,X.base.get? b=some o->s.heap.get? b=some o:=λb o e=>(I.bs b o e).1
def Inv.mod (I:Inv X Y U H s):Mod X.K X.mg X.base:=I.ok.mod
def Inv.bF (I:Inv X Y U H s):X.K.In s.heap:=I.ok.mod.kin.keeps I.bk
def Inv.lt (I:Inv X Y U H s):X.env.locals<s.heap.objs.size:=let⟨_,hn,_⟩:=I.loc;hn.lt
def Inv.sz (I:Inv X Y U H s):X.s₀.heap.objs.size<=s.heap.objs.size:=Nat.le_trans I.ok.above (Nat.le_of_lt I.lt)
def Inv.Jh (I:Inv X Y U H s)(h:s.heap.objs.size<=a):a ∉ X.fs:=λhb=>by
 obtain⟨_,o,ho,_⟩:=I.ok.g6.mem hb;exact absurd (nw (ut ho) (Nat.le_trans I.sz h)) (Nat.lt_irrefl _)
def Inv.yR (I:Inv X Y U H s):∀ x c,X.env.cells.lookup x=some c->c≠X.env.locals:=λx c e z=>by
 obtain⟨v,o,ho,hd⟩:=I.cell x c e;obtain⟨m,⟨o',es,ep,ho',hd',_⟩,_⟩:=I.loc;rw[z,ho']at ho;cases ho;rw[hd']at hd;cases hd
def Inv.g6 (I:Inv X Y U H s):s.heap.FunFrames X.base X.outer:=by
 have all:∀ (l:List Env),(∀ b ∈ nD l,b ∈ X.fs)->X.s₀.heap.FunFrames X.base l->s.heap.FunFrames X.base l:=by
  intro l
  induction l with
  |nil=>intro _ _;trivial
  |cons env r ih=>
   intro hs hl;obtain⟨hk,⟨L,o,hf,hn,ho,hd⟩,hr⟩:=hl;have hL:L ∈ X.fs:=hs L (by unfold nD;rw[filterMap_cons,hf];exact lv);obtain⟨sl,e⟩:=I.base.slot L o ho (I.ok.frf L hL) hL λz=>I.ok.exfs L z hL
   exact⟨hk,⟨L,_,hf,hn,e,hd⟩,ih (λb hb=>hs b (by unfold nD;rw[filterMap_cons,hf];exact dL _ hb)) hr⟩
 exact all X.outer (λ_ hb=>hb) I.ok.g6
def Inv.stack (I:Inv X Y U H s):s.heap.FunFrames X.base X.stack:=by
 rcases I.ok.stk with e|⟨e,hf⟩
 .rw[e];exact I.g6
 .rw[e];obtain⟨m,hn,_⟩:=I.loc;refine .cons (by rw[I.ok.kind];decide) hf hn ?_ I.g6;exact Heap.get?_none_of_le (Nat.le_trans I.ok.bsz I.ok.above)
def Inv.gQ (I:Inv X Y U H s):∀ b ∈ nD X.stack,b ∈ X.env.locals::X.fs:=λb hb=>by
 rcases I.ok.stk with e|⟨e,hf⟩
 .rw[e]at hb;exact dL _ hb
 .rw[e]at hb;unfold nD at hb;rw[filterMap_cons,hf]at hb;exact hb
def Inv.l9 (I:Inv X Y U H s):∀ b ∈ nD X.stack,H b=none:=λb hb=>by
 rcases lw.mp (I.gQ b hb) with e|hb
 .rw[e];exact I.free
 .obtain⟨_,o,ho,_⟩:=I.ok.g6.mem hb;exact I.base.free b o ho (I.ok.frf b hb) λz=>I.ok.exfs b z hb
def Inv.step {t':Nat}{d':Drawn}(I:Inv X Y U H s)
  (hch:∀ b ∈ ch,(b ∈ X.ex\/X.s₀.heap.objs.size<=b)/\b≠X.env.locals/\(∀ x c,X.env.cells.lookup x=some c->c≠b)/\∀ p ∈ X.pn++Y,p.1≠b)
  (keep:∀ b o,b≠X.env.locals->b ∉ X.fs->b ∉ ch->s.heap.get? b=some o->H b=none->h'.get? b=some o)
  (slot:∀ b o,b≠X.env.locals->b ∈ X.fs->b ∉ ch->s.heap.get? b=some o->H b=none->∃ sl,h'.get? b=some { o with slots:=sl }) (free:∀ b o,b ∉ ch->s.heap.get? b=some o->H b=none->H' b=none)
  (there:∀ b o,b ∉ ch->s.heap.get? b=some o->∃ o',h'.get? b=some o')
  (tups:∀ b xs,H b=some (.tup xs)->H' b=some (.tup xs)) (frzs:∀ b u,Fix u->H b=some u->H' b=some u) (tbls:∀ b ps,H b=some (.tbl ps)->∃ more,H' b=some (.tbl (ps++more)))
  (ns:∀ m,s.heap.Ns X.env.locals m->h'.Ns X.env.locals m) (hok:fw X.prog X.w H' h') (hg:AllBare g'):
  Inv X Y U H' { s with heap:=h',gens:=g',drawn:=d',toks:=t' }:=by
 have neL:∀ b o,X.s₀.heap.get? b=some o->b≠X.env.locals:=λb o e=>pi (nw (ut e) I.ok.above)
 have neC:∀ b o,X.s₀.heap.get? b=some o->b ∉ X.ex->b ∉ ch:=λb o e hx hb=>by
  rcases(hch b hb).1 with z|z
  .exact hx z
  .exact absurd (nw (ut e) z) (Nat.lt_irrefl _)
 have cellK:∀ x c,X.env.cells.lookup x=some c->∀ v,s.heap.IsCell c v->h'.IsCell c v:=λx c e v ⟨o,ho,hd⟩=>by
  have nch:c ∉ ch:=λz=>(hch c z).2.2.1 x c e rfl
  by_cases hc:c ∈ X.fs
  .obtain⟨sl,q⟩:=slot c o (I.yR x c e) hc nch ho (I.freeC x c e);exact⟨_,q,hd⟩
  .exact⟨o,keep c o (I.yR x c e) hc nch ho (I.freeC x c e),hd⟩
 refine⟨I.ok,I.os,hg,⟨λb o e n hb hx=>?_,λb o e n hb hx=>?_,λb o e n hx=>?_,λb o e hx=>?_,λb xs e=>tups b xs (I.base.tups b xs e),λb o xs e=>frzs b o xs (I.base.frzs b o xs e),λb ps e=>?_⟩,?_,λx c e=>?_,?_,λx c e=>?_,λp hp=>?_,hok,I.len⟩
 .exact keep b o (neL b o e) hb (neC b o e hx) (I.base.keep b o e n hb hx) (I.base.free b o e n hx)
 .obtain⟨sl,e1⟩:=I.base.slot b o e n hb hx;obtain⟨sl',e2⟩:=slot b _ (neL b o e) hb (neC b o e hx) e1 (I.base.free b o e n hx);exact⟨sl',e2⟩
 .obtain⟨o',e1⟩:=I.base.there b o e hx;exact free b o' (neC b o e hx) e1 (I.base.free b o e n hx)
 .obtain⟨o',e1⟩:=I.base.there b o e hx;exact there b o' (neC b o e hx) e1
 .obtain⟨m1,e1⟩:=I.base.tbls b ps e;obtain⟨m2,e2⟩:=tbls b _ e1;exact⟨m1++m2,by rw[e2,Array.append_assoc]⟩
 .obtain⟨m,hn,hl⟩:=I.loc;refine⟨m,ns m hn,λi x v e1 e2 e3=>?_⟩;obtain⟨u,r,l⟩:=hl i x v e1 e2 e3;refine⟨u,r,?_⟩;rcases l with l|⟨k,c,e,z⟩
  .exact .inl l
  .exact .inr ⟨k,c,e,cellK x c e _ z⟩
 .obtain⟨v,z⟩:=I.cell x c e;exact⟨v,cellK x c e v z⟩
 .obtain⟨m,⟨o,_,_,ho,_⟩,_⟩:=I.loc;exact free _ o (λz=>(hch _ z).2.1 rfl) ho I.free
 .obtain⟨v,o,ho,hd⟩:=I.cell x c e;exact free c o (λz=>(hch c z).2.2.1 x c e rfl) ho (I.freeC x c e)
 .obtain⟨e,n,ne,nf,d⟩:=I.pin p hp;have nch:p.1 ∉ ch:=λz=>(hch p.1 z).2.2.2 p hp rfl
  exact⟨keep p.1 p.2 ne nf nch e n,free p.1 p.2 nch e n,ne,nf,d⟩
def Inv.un {t':Nat}(I:Inv X Y U H s)(u:Un X.fs [] H H' s.heap h')(hok:fw X.prog X.w H' h'):Inv X Y U H' { s with heap:=h',toks:=t' }:=by
 obtain⟨m,⟨o,es,ep,ho,r⟩,_⟩:=id I.loc;obtain⟨sl,hL⟩:=u.any ho I.free (by simp);exact I.step (g':=s.gens) (d':=s.drawn) (ch:=[]) (λ_ z=>nomatch z) (λb o _ hb _ e n=>u.keep b o e n hb (by simp)) (λb o _ hb _ e n=>u.slot b o e n hb (by simp)) (λb o _ e n=>u.free b o e n (by simp)) (λb o _ e=>u.there b o e (by simp)) u.tups u.frzs u.tbls (λm' hm=>by
  obtain⟨o',es',ep',ho',r'⟩:=hm;rw[ho]at ho';cases ho';exact⟨_,es',ep',hL,r'⟩) hok I.bare
def Inv.call {t':Nat}{d':Drawn}(I:Inv X Y U H s)(u:Un (nD X.stack) ch H H' s.heap h')(hok:fw X.prog X.w H' h')(hg:AllBare g')
  (hch:∀ b ∈ ch,(b ∈ X.ex\/X.s₀.heap.objs.size<=b)/\b≠X.env.locals/\(∀ x c,X.env.cells.lookup x=some c->c≠b)/\∀ p ∈ X.pn++Y,p.1≠b):
  Inv X Y U H' { s with heap:=h',gens:=g',drawn:=d',toks:=t' }:=by
 obtain⟨m,⟨o,es,ep,ho,r⟩,_⟩:=id I.loc;obtain⟨sl,hL⟩:=u.any ho I.free λz=>(hch _ z).2.1 rfl
 exact I.step (ch:=ch) hch (λb o hL hb hc e n=>u.keep b o e n (λz=>(lw.mp (I.gQ b z)).elim hL hb) hc) (λb o _ _ hc e n=>u.any e n hc) (λb o hc e n=>u.free b o e n hc) (λb o hc e=>u.there b o e hc) u.tups u.frzs u.tbls (λm' hm=>by
  obtain⟨o',es',ep',ho',r'⟩:=hm;rw[ho]at ho';cases ho';exact⟨_,es',ep',hL,r'⟩) hok hg
def Inv.turned {t':Nat}{it:Addr}(I:Inv X Y U H s)(k:∀ b o,b≠it->s.heap.get? b=some o->h'.get? b=some o) (hn:H it=none) (hL:it≠X.env.locals)
  (h1:it ∈ X.ex\/X.s₀.heap.objs.size<=it) (h2:∀ x c,X.env.cells.lookup x=some c->c≠it) (h3:∀ p ∈ X.pn++Y,p.1≠it):Inv X Y U H { s with heap:=h',toks:=t' }:=by
 have nit:∀ b u,H b=some u->b≠it:=λb u e z=>by rw[z,hn]at e;cases e
 refine I.step (g':=s.gens) (d':=s.drawn) (ch:=[it]) (λb hb=>?_) (λb o _ _ hc e _=>k b o (λz=>hc (by simp[z])) e) (λb o _ _ hc e _=>⟨o.slots,k b o (λz=>hc (by simp[z])) e⟩) (λ_ _ _ _ n=>n)
  (λb o hc e=>⟨o,k b o (λz=>hc (by simp[z])) e⟩) (λ_ _ e=>e) (λ_ _ _ e=>e) (λb ps e=>⟨#[],by rw[e];simp⟩) (λm hm=>?_) (λb u e=>?_) I.bare
 .have e:b=it:=by simpa using hb
  subst e;exact⟨h1,hL,h2,h3⟩
 .obtain⟨o,es,ep,ho,r⟩:=hm;exact⟨o,es,ep,k _ o (Ne.symm hL) ho,r⟩
 .refine(I.hok b u e).du (λc v hc q=>k c v ?_ q) (λ_ q=>q) λ_ _ q=>q
  rcases hc with z|z
  .rw[z];exact nit b u e
  .exact nit c _ z
def Inv.tok (I:Inv X Y U H s)(t:Nat):Inv X Y U H { s with toks:=t }:=I.un (h':=s.heap) (t':=t) Un.refl I.hok
def Inv.kept {t':Nat}(I:Inv X Y U H s)(k:∀ b u,s.heap.get? b=some u->h'.get? b=some u):Inv X Y U H { s with heap:=h',toks:=t' }:=I.un (Un.kept k) (I.hok.kept k)
def Inv.laid {t':Nat}(I:Inv X Y U H s)(k:∀ b u,s.heap.get? b=some u->h'.get? b=some u) (hp:s.heap.objs.size<=a) (new:au X.prog X.w (upd H a o) h' a o):
  Inv X Y U (upd H a o) { s with heap:=h',toks:=t' }:=I.un (Un.laid k hp (I.hok.fresh hp)) (I.hok.laid k hp new)
def Inv.write {x e:Addr}{t':Nat}(I:Inv X Y U H s)(mu:FE (H x))(he:e=x\/H e=some (.own x))(k:∀ b u,b≠e->s.heap.get? b=some u->h'.get? b=some u) (heo:∃ u,h'.get? e=some u)
  (new:au X.prog X.w (upd H x o) h' x o):Inv X Y U (upd H x o) { s with heap:=h',toks:=t' }:=I.un (Un.write mu he k heo) (I.hok.write mu he k heo new)
def Inv.md {pins':K2}(I:Inv X Y U H s)(h:∀ p ∈ pins',s.heap.get? p.1=some p.2/\H p.1=none/\p.1≠X.env.locals/\p.1 ∉ X.fs/\∀ v,p.2.data≠.cell v):Inv X pins' U H s:=
 ⟨I.ok,I.os,I.bare,I.base,I.loc,I.cell,I.free,I.freeC,λp hp=>(mem_append.mp hp).elim (λz=>I.pin p (mem_append_left _ z)) (h p),I.hok,I.len⟩
def jt {N:List Str}(hN:N.Nodup){j:Nat}(a:N[i]? =some x)(b:N[j]? =some x):i=j:=by
 obtain⟨h1,e1⟩:=tz.mp a;obtain⟨h2,e2⟩:=tz.mp b;exact(List.getElem_inj hN).mp (e1.trans e2.symm)
variable {Q:KZ}
def kX (I:Inv X Y U H s)(hN:X.N.Nodup)(hi:X.N[i]? =some x)(hx:Loc X.env.scope x)(r:RelV v u)
  (h:∀ s',Inv X Y (U.set i (some v)) H s'->(∃ a,Heap.SameBut a s.heap s'.heap/\(a=X.env.locals\/X.env.cells.lookup x=some a))->Q () s') (hf:X.fn x=true\/X.env.scope.names.lookup x=some .local:=by first|exact .inl rfl|exact .inr rfl|assumption):wpAny M A (storeName X.env x u) Q E s:=by
 obtain⟨m,hn,hl⟩:=id I.loc;have hcls:(X.env.scope.kind ==.class||(X.env.scope.kind ==.module&&X.env.locals != X.env.globals))=false:=by rw[I.ok.kind];rfl
 have hiσ:i<U.length:=by rw[I.len];exact(tz.mp hi).1
 have yR:=I.yR;have tracked:∀ {a:Addr}{h':Heap},(∃ o,s.heap.get? a=some o/\H a=none)->Heap.SameBut a s.heap h'->fw X.prog X.w H h':=λ{a h'} ha hs b ob e=>by
  obtain⟨_,_,hfree⟩:=ha;refine(I.hok b ob e).du (λc w' hc q=>(hs.2 c ?_).trans q) (λ_ q=>q) λ_ _ q=>q
  rintro rfl;rcases hc with rfl|hc
  .rw[hfree]at e;cases e
  .rw[hfree]at hc;cases hc
 rcases hx with hk|hk
 .refine wpAny_storeName_local hk hn (λh' hn' hs=>?_) hcls;obtain⟨oL,_,_,hoL,_⟩:=id hn;refine h _ ⟨I.ok,I.os,I.bare,⟨λb o e n hb hx=>?_,λb o e n hb hx=>?_,I.base.free,λb o e hx=>?_,I.base.tups,I.base.frzs,I.base.tbls⟩,⟨_,hn',λj y v' e1 e2 e3=>?_⟩,λy c e=>?_,I.free,I.freeC,λp hp=>?_,tracked ⟨oL,hoL,I.free⟩ hs,by simpa using I.len⟩ ⟨_,hs,.inl rfl⟩
  .exact(hs.2 b (pi (nw (ut e) I.ok.above))).trans (I.base.keep b o e n hb hx)
  .obtain⟨sl,e1⟩:=I.base.slot b o e n hb hx;exact⟨sl,(hs.2 b (pi (nw (ut e) I.ok.above))).trans e1⟩
  .obtain⟨o',e1⟩:=I.base.there b o e hx;exact⟨o',(hs.2 b (pi (nw (ut e) I.ok.above))).trans e1⟩
  .by_cases hj:j=i
   .subst hj;rw[hi]at e1;cases e1;rw[getElem?_set_self hiσ]at e2;cases e2;exact⟨u,r,.inl ⟨hk,by simp⟩⟩
   .rw[getElem?_set_ne (Ne.symm hj)]at e2;obtain⟨u',r',q⟩:=hl j y v' e1 e2 e3;refine⟨u',r',?_⟩;rcases q with⟨k,e⟩|⟨k,c,e,z⟩
    .refine .inl ⟨k,?_⟩;have:y≠x:=λe=>hj (jt hN e1 (e▸hi))
     simp[this,e]
    .exact .inr ⟨k,c,e,z.sameBut hs (yR y c e)⟩
  .obtain⟨w',z⟩:=I.cell y c e;exact⟨w',z.sameBut hs (yR y c e)⟩
  .obtain⟨e,n,ne,nf,d⟩:=I.pin p hp;exact⟨(hs.2 p.1 ne).trans e,n,ne,nf,d⟩
 .have hfn:X.fn x=true:=by
   rcases hf with z|z
   .exact z
   .rw[z]at hk;cases hk
  obtain⟨c,hc⟩:=I.ok.has x (.inl hk);obtain⟨w',z⟩:=I.cell x c hc;refine wpAny_storeName_cell I.ok.kind hk hc z (λh' hc' hs=>?_);obtain⟨oc,hoc,hocd⟩:=id z;refine h { s with heap:=h' } ⟨I.ok,I.os,I.bare,⟨λb o e n hb hx=>?_,λb o e n hb hx=>?_,I.base.free,λb o e hx=>?_,I.base.tups,I.base.frzs,I.base.tbls⟩,⟨m,hn.sameBut hs (Ne.symm (yR x c hc)),λj y v' e1 e2 e3=>?_⟩,λy c' e=>?_,I.free,I.freeC,λp hp=>?_,tracked ⟨oc,hoc,I.freeC x c hc⟩ hs,by simpa using I.len⟩ ⟨c,hs,.inr hc⟩
  .exact(hs.2 b (pi (nw (ut e) (I.ok.cab x c hfn hc)))).trans (I.base.keep b o e n hb hx)
  .obtain⟨sl,e1⟩:=I.base.slot b o e n hb hx;exact⟨sl,(hs.2 b (pi (nw (ut e) (I.ok.cab x c hfn hc)))).trans e1⟩
  .obtain⟨o',e1⟩:=I.base.there b o e hx;exact⟨o',(hs.2 b (pi (nw (ut e) (I.ok.cab x c hfn hc)))).trans e1⟩
  .by_cases hj:j=i
   .subst hj;rw[hi]at e1;cases e1;rw[getElem?_set_self hiσ]at e2;cases e2;exact⟨u,r,.inr ⟨.inl hk,c,hc,hc'⟩⟩
   .rw[getElem?_set_ne (Ne.symm hj)]at e2;obtain⟨u',r',q⟩:=hl j y v' e1 e2 e3;refine⟨u',r',?_⟩;rcases q with q|⟨k,c',e,z'⟩
    .exact .inl q
    .refine .inr ⟨k,c',e,z'.sameBut hs ?_⟩;rintro rfl;exact hj (jt hN e1 (I.ok.inj _ _ _ e hc▸hi))
  .by_cases hcc:c'=c
   .subst hcc;exact⟨_,hc'⟩
   .obtain⟨w2,z2⟩:=I.cell y c' e;exact⟨w2,z2.sameBut hs hcc⟩
  .obtain⟨e,n,ne,nf,d⟩:=I.pin p hp;refine⟨(hs.2 p.1 ?_).trans e,n,ne,nf,d⟩;intro q;rw[q,hoc]at e;have q':oc=p.2:=Option.some.inj e;exact d w' (by rw[<-q'];exact hocd)
def fY (I:Inv X Y U H s)(hN:X.N.Nodup)(hi:X.N[i]? =some x)(hx:Loc X.env.scope x)(r:RelV v u)
  (h:∀ s',Inv X Y (U.set i (some v)) H s'->Q () s') (hf:X.fn x=true\/X.env.scope.names.lookup x=some .local:=by first|exact .inl rfl|exact .inr rfl|assumption):wpAny M A (storeName X.env x u) Q E s:=
 kX I hN hi hx r (λs' I' _=>h s' I') hf
def Inv.tw {s':Shared}(I:Inv X Y U H s)(ho:s'.os=s.os)(u:Un (nD X.stack) ch H H' s.heap s'.heap)(hok:fw X.prog X.w H' s'.heap)(hg:AllBare s'.gens)
  (hch:∀ b ∈ ch,(b ∈ X.ex\/X.s₀.heap.objs.size<=b)/\b≠X.env.locals/\(∀ x c,X.env.cells.lookup x=some c->c≠b)/\∀ p ∈ X.pn++Y,p.1≠b):Inv X Y U H' s':=by
 obtain⟨h',g',d',t',o'⟩:=s';have e:o'=s.os:=ho;subst e;exact I.call (g':=g') (t':=t') (d':=d') u hok hg hch
end
@[reducible]def XK:=Addr->Hp->Prop
@[reducible]def St:=List (Option V)
@[reducible]def VK:=V->Hp->Prop
@[reducible]def TE:=St->Hp->VK->Prop
@[reducible]def TT:=St->Hp->(Bool->Hp->Prop)->Prop
@[reducible]def TA:=St->Hp->(List V->Hp->Prop)->Prop
structure Ends where
 nx:St->Hp->Prop
 rt:VK
 bk:St->Hp->Prop:=λ_ _=>False
 ct:St->Hp->Prop:=λ_ _=>False
@[reducible]def TS:=Ends->St->Hp->Prop
abbrev EP (X:Cx)(Y:K2)(U:St)(Q:VK)(u:Value)(s':Shared):Prop:=∃ v H',Inv X Y U H' s'/\RelV v u/\Q v H'
abbrev TP (X:Cx)(Y:K2)(U:St)(Q:Bool->Hp->Prop)(b:Bool)(s':Shared):Prop:=∃ H',Inv X Y U H' s'/\Q b H'
abbrev AP (X:Cx)(Y:K2)(U:St)(Q:List V->Hp->Prop)(us:List Value)(s':Shared):Prop:=∃ vs H',Inv X Y U H' s'/\Vals vs us/\Q vs H'
abbrev SP (X:Cx)(Y:K2)(D:Ends)(f:Flow)(s':Shared):Prop:=
 match f with
 | .next=>∃ σ' H',Inv X Y σ' H' s'/\D.nx σ' H'
 | .brk=>∃ σ' H',Inv X Y σ' H' s'/\D.bk σ' H'
 | .cont=>∃ σ' H',Inv X Y σ' H' s'/\D.ct σ' H'
 | .ret u=>∃ v σ' H',Inv X Y σ' H' s'/\RelV v u/\D.rt v H'
abbrev PE (X:Cx)(e:Expr)(t:TE):Prop:=
 ∀ (Y:K2) (s:Shared) (U:St) (H:Hp) (Q:VK),Inv X Y U H s->t U H Q->wpAny (model X.prog X.w) X.A (eval e X.env) (EP X Y U Q) X.xe s
abbrev PT (X:Cx)(e:Expr)(t:TT):Prop:=
 ∀ (Y:K2) (s:Shared) (U:St) (H:Hp) (Q:Bool->Hp->Prop),Inv X Y U H s->t U H Q->wpAny (model X.prog X.w) X.A (isTrue e X.env (eval e X.env)) (TP X Y U Q) X.xe s
abbrev PW (X:Cx)(e:Expr)(t:TT):Prop:=
 ∀ (whole:Sem Value) (Y:K2) (s:Shared) (U:St) (H:Hp) (Q:Bool->Hp->Prop),Inv X Y U H s->t U H Q->wpAny (model X.prog X.w) X.A (isTrue e X.env whole) (TP X Y U Q) X.xe s
variable {e:Expr}
def PW.pt {X:Cx}{t:TT}(h:PW X e t):PT X e t:=h _
abbrev PA (X:Cx)(es:List Expr)(t:TA):Prop:=
 ∀ (pos:Pos) (Y:K2) (s:Shared) (U:St) (H:Hp) (Q:List V->Hp->Prop),Inv X Y U H s->t U H Q->wpAny (model X.prog X.w) X.A (spliced (backTo pos (bm es X.env))) (AP X Y U Q) X.xe s
abbrev PS (X:Cx)(st:Stmt)(t:TS):Prop:=
 ∀ (Y:K2) (s:Shared) (U:St) (H:Hp) (D:Ends),Inv X Y U H s->t D U H->wpAny (model X.prog X.w) X.A (exec st X.env) (SP X Y D) X.xe s
abbrev Bv (X:Cx)(st:List Stmt)(t:TS):Prop:=
 ∀ (Y:K2) (s:Shared) (U:St) (H:Hp) (D:Ends),Inv X Y U H s->t D U H->wpAny (model X.prog X.w) X.A (execs st X.env) (SP X Y D) X.xe s
variable {s:Shared}
def ax {α:Type}{t:Sem α}{Q Q':α->Shared->Prop}(h:wpAny M A t Q E s)(hQ:∀ a s,Q a s->Q' a s):wpAny M A t Q' E s:=wpAny_mono h hQ λ_ _ x=>x
variable {Q:K1}{Y:K2}{U:St}{c:Expr}
section
variable {X:Cx}
abbrev JE (i:Nat):TE:=λU H Q=>∃ v,U[i]? =some (some v)/\Q v H
abbrev tC (v:V):TE:=λ_ H Q=>Q v H
def Dr {pos:Pos}(hN:X.N[i]? =some x)(hv:Io X.env.scope x)(hd:(x ==("__debug__":Str))=false:=by decide) (hcd:(x ==("__classdict__":Str))=false:=by decide):PE X (.Name x pos) (JE i):=by
 intro Y s U H Q I h;obtain⟨v,e,h⟩:=h;obtain⟨m,hn,hl⟩:=I.loc;obtain⟨u,r,l⟩:=hl i x v hN e hv;have fin:EP X Y U Q u s:=⟨v,H,I,r,h⟩;rcases l with⟨hk,hm⟩|⟨hk,c,hc,hcell⟩
 .exact wpAny_Name (wpAny_loadName_local I.ok.kind hk hn hm fin) hd
 .rcases hk with hk|hk
  .exact wpAny_Name (wpAny_loadName_cell I.ok.kind hk hc hcell fin) hd
  .exact wpAny_Name (wpAny_loadName_free I.ok.kind hk hc hcell fin hcd) hd
def El {i j pos}:PE X (.Constant (.int i) j pos) (tC (.int i)):=λ_ _ _ H _ I h=>wpAny_Constant_int ⟨.int i,H,I.tok _,⟨_,rfl⟩,h⟩
def HS {b j pos}:PE X (.Constant (.bool b) j pos) (tC (.bl b)):=λ_ _ _ H _ I h=>Constant_bool ⟨.bl b,H,I,rfl,h⟩
def DN {j pos}:PE X (.Constant .none j pos) (tC .non):=λ_ _ _ H _ I h=>Constant_none ⟨.non,H,I,rfl,h⟩
def vS {x j pos}:PE X (.Constant (.str x) j pos) (tC (.str x)):=λ_ _ _ H _ I h=>Calls.Constant_str ⟨.str x,H,I.tok _,⟨_,rfl⟩,h⟩
abbrev Gl (X:Cx)(x:Str):Prop:=X.env.kindOf x=some .globalImplicit
def bg {pos:Pos}(I:Inv X Y U H s)(hg:Gl X x)(hm:X.mg x=some u)(h:Q u s)
  (hd:(x ==("__debug__":Str))=false:=by decide):wpAny (model X.prog X.w) X.A (eval (.Name x pos) X.env) Q E s:=
 Calls.Name_function_global I.ok.kind hg (Calls.loadGlobal_global (by rw[I.ok.glob];exact I.mod.glob.keeps I.bk) hm h) hd
def bN {pos:Pos}(I:Inv X Y U H s)(hg:Gl X x)(hm:X.mg x=none)(hv:bootBuiltins x=some u)(h:Q u s)
  (hn:x≠"__name__":=by decide) (hd:(x ==("__debug__":Str))=false:=by decide):wpAny (model X.prog X.w) X.A (eval (.Name x pos) X.env) Q E s:=by
 obtain⟨mb,h1,h2⟩:=I.mod.blt;exact Calls.Name_function_global I.ok.kind hg (Calls.loadGlobal_builtin (by rw[I.ok.glob];exact I.mod.glob.keeps I.bk) hm (by rw[I.ok.blt];exact h1.keeps I.bk) ((h2 x hn).trans hv) h) hd
def nj {pos:Pos}(hg:Gl X x)(hm:X.mg x=some u)(r:RelV v u)(hd:(x ==("__debug__":Str))=false:=by decide):PE X (.Name x pos) (tC v):=
 λ_ _ _ H _ I h=>bg I hg hm ⟨v,H,I,r,h⟩ hd
def BL {pos:Pos}(hg:Gl X x)(hm:X.mg x=none)(hv:bootBuiltins x=some u)(r:RelV v u)(hn:x≠"__name__":=by decide) (hd:(x ==("__debug__":Str))=false:=by decide):PE X (.Name x pos) (tC v):=
 λ_ _ _ H _ I h=>bN I hg hm hv ⟨v,H,I,r,h⟩ hn hd
variable {a b:Expr}{ta tb:TE}{pos:Pos}
variable {tA tB':TT}{rest:List Expr}
abbrev Jt (t u:TT):TT:=λU H Q=>t U H λc H1=>if c=true then u U H1 Q else Q false H1
abbrev KG (t u:TT):TT:=λU H Q=>t U H λc H1=>if c=true then Q true H1 else u U H1 Q
abbrev IX (t:TT):TT:=λU H Q=>t U H λc H1=>Q (!c) H1
def AK (ha:PT X a tA):PW X (.BoolOp .And [a] pos) tA:=by
 intro wh Y s U H Q I h;refine isTrue_and (ax (ha Y s U H Q I h) λc s1 e=>?_);cases c with
 |true=>exact isTrue_and_nil e
 |false=>exact e
def DH (ha:PT X a tA):PW X (.BoolOp .Or [a] pos) tA:=by
 intro wh Y s U H Q I h;refine isTrue_or (ax (ha Y s U H Q I h) λc s1 e=>?_);cases c with
 |false=>exact isTrue_or_nil e
 |true=>exact e
def DI (ha:PT X a tA)(hb:PW X (.BoolOp .And (b::rest) pos) tB'):PW X (.BoolOp .And (a::b::rest) pos) (Jt tA tB'):=by
 intro wh Y s U H Q I h;refine isTrue_and (ax (ha Y s U H _ I h) λc s1 ⟨H1,I1,q1⟩=>?_);cases c with
 |true=>exact hb wh Y s1 U H1 Q I1 q1
 |false=>exact⟨H1,I1,q1⟩
def Hd (ha:PT X a tA)(hb:PW X (.BoolOp .Or (b::rest) pos) tB'):PW X (.BoolOp .Or (a::b::rest) pos) (KG tA tB'):=by
 intro wh Y s U H Q I h;refine isTrue_or (ax (ha Y s U H _ I h) λc s1 ⟨H1,I1,q1⟩=>?_);cases c with
 |true=>exact⟨H1,I1,q1⟩
 |false=>exact hb wh Y s1 U H1 Q I1 q1
def EW (ha:PT X a tA):PT X (.UnaryOp .Not a pos) (IX tA):=by
 intro Y s U H Q I h;exact isTrue_not (ha Y s U H (λc H1=>Q (!c) H1) I h)
abbrev F0 (ta tb:TE):TE:=λU H Q=>ta U H λx H1=>∃ c,x=.bl c/\if c=true then tb U H1 Q else Q (.bl false) H1
abbrev Jz (ta tb:TE):TE:=λU H Q=>ta U H λx H1=>∃ c,x=.bl c/\if c=true then Q (.bl true) H1 else tb U H1 Q
abbrev GW (ta:TE):TE:=λU H Q=>ta U H λx H1=>∃ c,x=.bl c/\Q (.bl (!c)) H1
def yO {op}{t:TE}(h:PE X a t):PE X (.BoolOp op [a] pos) t:=λY s U H Q I hw=>BoolOp_one (h Y s U H Q I hw)
def Ek (ha:PE X a ta)(hb:PE X (.BoolOp .And (b::rest) pos) tb):PE X (.BoolOp .And (a::b::rest) pos) (F0 ta tb):=by
 intro Y s U H Q I h;refine BoolOp_and (ax (ha Y s U H _ I h) λv s1 ⟨x,H1,I1,r1,q1⟩=>?_);obtain⟨c,rfl,q1⟩:=q1;cases r1;refine bi ?_;cases c with
 |true=>exact hb Y s1 U H1 Q I1 q1
 |false=>exact⟨.bl false,H1,I1,rfl,q1⟩
def Hc (ha:PE X a ta)(hb:PE X (.BoolOp .Or (b::rest) pos) tb):PE X (.BoolOp .Or (a::b::rest) pos) (Jz ta tb):=by
 intro Y s U H Q I h;refine BoolOp_or (ax (ha Y s U H _ I h) λv s1 ⟨x,H1,I1,r1,q1⟩=>?_);obtain⟨c,rfl,q1⟩:=q1;cases r1;refine bi ?_;cases c with
 |false=>exact hb Y s1 U H1 Q I1 q1
 |true=>exact⟨.bl true,H1,I1,rfl,q1⟩
def ED (ha:PE X a ta):PE X (.UnaryOp .Not a pos) (GW ta):=by
 intro Y s U H Q I h;refine UnaryOp_ (ax (ha Y s U H _ I h) λv s1 ⟨x,H1,I1,r1,q1⟩=>?_);obtain⟨c,rfl,q1⟩:=q1;cases r1;exact not_of (bi ⟨.bl (!c),H1,I1,rfl,q1⟩)
abbrev Kp (t:TT)(ta tb:TE):TE:=λU H Q=>t U H λc H1=>if c=true then ta U H1 Q else tb U H1 Q
def w9 (hc:PT X c tA)(ha:PE X a ta)(hb:PE X b tb):PE X (.IfExp c a b pos) (Kp tA ta tb):=by
 intro Y s U H Q I h;refine wpAny_IfExp (ax (hc Y s U H _ I h) λd s1 ⟨H1,I1,q1⟩=>?_);cases d with
 |true=>exact ha Y s1 U H1 Q I1 q1
 |false=>exact hb Y s1 U H1 Q I1 q1
end
abbrev ba (K:W.Frag)(H:Hp)(a:Addr)(xs:List V):Prop:=
 Rd H a (.lst xs)\/
  ∃ (o:Obj) (its:Array Value) (n:Nat),K.lookup a=some o/\o.cls=.type "list"/\o.dict=none/\o.data=.seq its n/\its.size<=bn/\Vals xs its.toList
abbrev aX (K:W.Frag)(H:Hp)(a:Addr)(xs:List V):Prop:=
 Rd H a (.tup xs)\/
  ∃ (o:Obj) (its:Array Value) (n:Nat),K.lookup a=some o/\o.cls=.type "tuple"/\o.data=.seq its n/\its.size<=bn/\Vals xs its.toList
abbrev IF:Value->Option V
 | .none=>some .non
 | .bool b=>some (.bl b)
 | .int i _=>some (.int i)
 | .str x _=>some (.str x)
 | .bytes b _=>some (.byt b)
 | .float b _=>some (.flt b)
 | .ref a=>some (.ref a)
 | .type n=>some (.ty n)
 |_=>none
def RelV.abs {x:V}(r:RelV x u):IF u=some x:=by
 cases x with
 |non=>cases r;rfl
 |bl _=>cases r;rfl
 |int _=>obtain⟨t,rfl⟩:=r;rfl
 |str _=>obtain⟨t,rfl⟩:=r;rfl
 |byt _=>obtain⟨t,rfl⟩:=r;rfl
 |flt _=>obtain⟨t,rfl⟩:=r;rfl
 |ref _=>cases r;rfl
 |ty _=>cases r;rfl
def RelV.inj {x y:V}(r:RelV x u)(q:RelV y u):x=y:=Option.some.inj (r.abs.symm.trans q.abs)
def Vals.inj:∀ {xs ys:List V}{us:List Value},Vals xs us->Vals ys us->xs=ys
 |_,_,_,.nil,.nil=>rfl
 |_,_,_,.cons r t,.cons r' t'=>by rw[r.inj r',Vals.inj t t']
variable {K:W.Frag}
section
variable {X:Cx}{Y:K2}{U:St}{H:Hp}{s:Shared}{a:Addr}{xs ys:List V}
def ba.of (h:H a=some (.lst xs)):ba K H a xs:=.inl (.inl h)
def aX.of (h:H a=some (.tup xs)):aX K H a xs:=.inl (.inl h)
def Inv.list (I:Inv X Y U H s)(h:ba X.K H a xs):∃ its:List Value,Vals xs its/\PlainL s.heap a its.toArray/\xs.length<=bn:=by
 rcases h with h|⟨o,its,n,hk,hc,hd,hs,hz,r⟩
 .obtain⟨z,its,n,r,e⟩:=h.ok I.hok;exact⟨its,r,⟨_,n,e,rfl,rfl,rfl⟩,z⟩
 .refine⟨its.toList,r,⟨o,n,I.bF a o hk,hc,hd,by simpa using hs⟩,?_⟩;have e:=r.length;simp only[Array.length_toList]at e
  omega
def Inv.tuple (I:Inv X Y U H s)(h:aX X.K H a xs):∃ its:List Value,Vals xs its/\IsTup s.heap a its.toArray/\xs.length<=bn:=by
 rcases h with h|⟨o,its,n,hk,hc,hs,hz,r⟩
 .obtain⟨z,its,r,p⟩:=h.ok I.hok;exact⟨its,r,p,z⟩
 .refine⟨its.toList,r,⟨o,I.bF a o hk,hc,n,by simpa using hs⟩,?_⟩;have e:=r.length;simp only[Array.length_toList]at e
  omega
def Inv.jU (I:Inv X Y U H s)(h:ba X.K H a xs)(h':ba X.K H a ys):xs=ys:=by
 obtain⟨its,r,⟨o,n,e,_,_,d⟩,_⟩:=I.list h;obtain⟨its',r',⟨o',n',e',_,_,d'⟩,_⟩:=I.list h';rw[e]at e';cases e';rw[d]at d'
 injection d' with d1 _
 have:its=its':=by simpa using congrArg Array.toList d1
 subst this;exact r.inj r'
def Inv.cB (I:Inv X Y U H s)(h:aX X.K H a xs)(h':aX X.K H a ys):xs=ys:=by
 obtain⟨its,r,⟨o,e,_,n,d⟩,_⟩:=I.tuple h;obtain⟨its',r',⟨o',e',_,n',d'⟩,_⟩:=I.tuple h';rw[e]at e';cases e';rw[d]at d'
 injection d' with d1 _
 have:its=its':=by simpa using congrArg Array.toList d1
 subst this;exact r.inj r'
end
section
variable {X:Cx}{Y:K2}{U:St}{H:Hp}{s:Shared}{E:K1}
end
section
variable {X:Cx}{st:Stmt}{rest:List Stmt}{t u:TS}{e:Expr}{te:TE}{pos:Pos}
abbrev FN:TS:=λD U H=>D.nx U H
abbrev JD (t u:TS):TS:=λD U H=>t { D with nx:=u D } U H
def BK:Bv X [] FN:=λ_ _ U H _ I h=>wpAny_execs_nil ⟨U,H,I,h⟩
def wj (h1:PS X st t)(h2:Bv X rest u):Bv X (st::rest) (JD t u):=by
 intro Y s U H D I h;refine wpAny_execs_cons (ax (h1 Y s U H { D with nx:=u D } I h) λf s1 q=>?_);cases f with
 |next=>
  obtain⟨σ',H',I',q⟩:=q;exact h2 Y s1 σ' H' D I' q
 |ret v=>exact q
 |brk=>exact q
 |cont=>exact q
def Inv.quiet (I:Inv X Y U H s):interactive X.env=false:=by simp[interactive,I.ok.kind]
abbrev He (te:TE):TS:=λD U H=>te U H λ_ H1=>D.nx U H1
def A5 (he:PE X e te)(hs:swapsWith e none pos.line X.env=pure false:=by rfl):PS X (.Expr e pos) (He te):=by
 intro Y s U H D I h;exact wpAny_Expr_any (ax (he Y s U H _ I h) λv s1 ⟨x,H1,I1,r1,q1⟩=>⟨U,H1,I1,q1⟩) I.quiet hs
abbrev IY (te:TE):TS:=λD U H=>te U H D.rt
def EO (he:PE X e te):PS X (.Return (some e) pos) (IY te):=by
 intro Y s U H D I h;exact wpAny_Return_some (ax (he Y s U H _ I h) λv s1 ⟨x,H1,I1,r1,q1⟩=>⟨x,U,H1,I1,r1,q1⟩)
abbrev JN (c:TT)(t u:TS):TS:=λD U H=>c U H λb H1=>if b=true then t D U H1 else u D U H1
def HM {a b:List Stmt}{tc:TT}(hc:PT X c tc)(ha:Bv X a t)(hb:Bv X b u):PS X (.If c a b pos) (JN tc t u):=by
 intro Y s U H D I h;refine wpAny_If (ax (hc Y s U H _ I h) λd s1 ⟨H1,I1,q1⟩=>?_);cases d with
 |true=>exact ha Y s1 U H1 D I1 q1
 |false=>exact hb Y s1 U H1 D I1 q1
end
@[reducible]def TG:=V->St->Hp->(St->Hp->Prop)->Prop
@[reducible]def AW:=List V->St->Hp->(St->Hp->Prop)->Prop
abbrev PG (X:Cx)(target:Expr)(t:TG):Prop:=
 ∀ (Y:K2) (s:Shared) (U:St) (H:Hp) (v:V) (u:Value) (Q:St->Hp->Prop),Inv X Y U H s->RelV v u->t v U H Q->
  wpAny (model X.prog X.w) X.A (assign target X.env u) (λ_ s'=>∃ σ' H',Inv X Y σ' H' s'/\Q σ' H') X.xe s
abbrev ES (X:Cx)(ts:List Expr)(t:AW):Prop:=
 ∀ (Y:K2) (s:Shared) (U:St) (H:Hp) (vs:List V) (us:List Value) (Q:St->Hp->Prop),Inv X Y U H s->Vals vs us->t vs U H Q->
  wpAny (model X.prog X.w) X.A (assignInOrder ((assignEach ts X.env).map (·.2)) us) (λ_ s'=>∃ σ' H',Inv X Y σ' H' s'/\Q σ' H') X.xe s
@[reducible]def t5:=V->V->V->Hp->(Hp->Prop)->Prop
abbrev Bw (X:Cx)(t:t5):Prop:=
 ∀ (Y:K2) (s:Shared) (U:St) (H:Hp) (o i v:V) (ov iv u:Value) (Q:Hp->Prop),Inv X Y U H s->RelV o ov->RelV i iv->RelV v u->t o i v H Q->
  wpAny (model X.prog X.w) X.A (setItem ov iv u) (λ_ s'=>∃ H',Inv X Y U H' s'/\Q H') X.xe s
@[reducible]def Ig:=V->V->Hp->VK->Prop
abbrev Ii (X:Cx)(op:Operator)(t:Ig):Prop:=
 ∀ (Y:K2) (s:Shared) (U:St) (H:Hp) (x y:V) (v u:Value) (Q:VK),Inv X Y U H s->RelV x v->RelV y u->t x y H Q->
  wpAny (model X.prog X.w) X.A (inplaceOp op v u) (EP X Y U Q) X.xe s
variable {es:List Expr}{k:Nat}{tg:Expr}{te:TE}
section
variable {X:Cx}{pos:Pos}
abbrev gc (i:Nat):TG:=λv U H Q=>Q (U.set i (some v)) H
def gp (hN:X.N.Nodup)(hi:X.N[i]? =some x)(hx:Loc X.env.scope x)(hf:X.fn x=true\/X.env.scope.names.lookup x=some .local:=by first|exact .inl rfl|exact .inr rfl|assumption):PG X (.Name x pos) (gc i):=by
 intro Y s U H v u Q I r h;exact wpAny_assign_Name (fY I hN hi hx r (λs' I'=>⟨_,H,I',h⟩) hf)
abbrev IC:AW:=λvs U H Q=>vs=[]/\Q U H
abbrev G6 (t:TG)(u:AW):AW:=λvs U H Q=>∃ v r,vs=v::r/\t v U H λσ' H'=>u r σ' H' Q
def mW:ES X [] IC:=by
 intro Y s U H vs us Q I r h;obtain⟨e,h⟩:=h;subst e;cases r;exact assignInOrder_nil ⟨U,H,I,h⟩
def gC {t:TG}{u:AW}(h1:PG X e t)(h2:ES X es u)
  (hs:(assignEach (e::es) X.env).map (·.2)=assign e X.env::(assignEach es X.env).map (·.2):=by rfl):ES X (e::es) (G6 t u):=by
 intro Y s U H vs us Q I r h;obtain⟨v,vr,e1,h⟩:=h;subst e1;cases r with
 |cons r rr=>
  rw[hs];refine assignInOrder_cons (ax (h1 Y s U H _ _ _ I r h) λ_ s1 ⟨σ1,H1,I1,q1⟩=>?_);exact h2 Y s1 σ1 H1 _ _ Q I1 rr q1
abbrev ze (K:W.Frag)(n:Nat)(t:AW):TG:=λv U H Q=>∃ a xs,v=.ref a/\aX K H a xs/\xs.length=n/\t xs U H Q
def lW {t:AW}{n:Nat}(hc:X.calm=true)(h:ES X es t)
  (hn:(assignEach es X.env).length=n:=by rfl) (hst:(assignEach es X.env).findIdx? (·.1)=none:=by rfl):PG X (.Tuple es k pos) (ze X.K n t):=by
 intro Y s U H v u Q I r hw;obtain⟨a,xs,e1,hq,hl,hw⟩:=hw;subst e1;cases r;obtain⟨its,rv,ht,hz⟩:=I.tuple hq;refine assign_Tuple_tuple (I.ok.hd hc) ht (by simp[hn,<-hl,rv.length]) hst λh' hx=>?_
 have I1:Inv X Y U H { s with heap:=h' }:=I.kept (t':=s.toks) λb o e=>hx b o (pi (ut e)) e
 exact h Y _ U H xs _ Q I1 (by simpa using rv) hw
abbrev JB (to ti:TE)(t:t5):TG:=λv U H Q=>to U H λo H1=>ti U H1 λi H2=>t o i v H2 λH3=>Q U H3
def DT {o i:Expr}{to ti:TE}{t:t5}(ho:PE X o to)(hi:PE X i ti)(hs:Bw X t)
  (ha:∀ v,assign (.Subscript o i pos) X.env v=(do
   let ov <-holding [v] (eval o X.env)
   let iv <-holding [v,ov] (eval i X.env)
   standAt pos
   holding [v,ov,iv] (setItem ov iv v)
   release [v,ov,iv] []):=by intro _;rfl):PG X (.Subscript o i pos) (JB to ti t):=by
 intro Y s U H v u Q I r h;rw[ha];refine ad (bd (ax (ho Y s U H _ I h) λov s1 ⟨x,H1,I1,r1,q1⟩=>?_));refine ad (bd (ax (hi Y s1 U H1 _ I1 q1) λiv s2 ⟨y,H2,I2,r2,q2⟩=>?_));refine ad (wpAny_standAt (ad (bd (ax (hs Y s2 U H2 x y v ov iv u _ I2 r1 r2 r q2) λ_ s3 ⟨H3,I3,q3⟩=>?_))));exact wpAny_release ⟨U,H3,I3,q3⟩
abbrev HC (te:TE)(g:TG):TS:=λD U H=>te U H λx H1=>g x U H1 D.nx
def wo {g:TG}(he:PE X e te)(hg:PG X tg g)(hs:swapsWithSole [tg] e pos.line X.env=pure false:=by rfl) (hw:swappedStores [tg] e X.env=pure none:=by rfl)
  (h1:(assignEach [tg] X.env).map (·.2)=[assign tg X.env]:=by rfl):PS X (.Assign [tg] e pos) (HC te g):=by
 intro Y s U H D I h;refine wpAny_Assign_stores (ax (he Y s U H _ I h) λv s1 ⟨x,H1,I1,r1,q1⟩=>?_) hs hw;rw[h1];exact ax (hg Y s1 U H1 x v _ I1 r1 q1) λ_ s2 q=>q
def wt {pos':Pos}(hN:X.N.Nodup)(hi:X.N[i]? =some x)(hx:Loc X.env.scope x)(he:PE X e te)(hs:swapsWith e (some (.Name x pos')) pos.line X.env=pure false:=by rfl) (hf:X.fn x=true\/X.env.scope.names.lookup x=some .local:=by first|exact .inl rfl|exact .inr rfl|assumption):
  PS X (.Assign [.Name x pos'] e pos) (HC te (gc i)):=by
 intro Y s U H D I h;refine wpAny_Assign_Name (ax (he Y s U H _ I h) λv s1 ⟨y,H1,I1,r1,q1⟩=>?_) hs;exact fY I1 hN hi hx r1 (λs2 I2=>⟨_,H1,I2,q1⟩) hf
abbrev FY (to ti te:TE)(tget:V->V->Hp->VK->Prop)(tip:Ig)(tset:t5):TS:=λD U H=>to U H λo H1=>ti U H1 λi H2=>tget o i H2 λx H3=>te U H3 λy H4=>tip x y H4 λz H5=>tset o i z H5 λH6=>D.nx U H6
abbrev DM (X:Cx)(t:V->V->Hp->VK->Prop):Prop:=
 ∀ (Y:K2) (s:Shared) (U:St) (H:Hp) (o i:V) (ov iv:Value) (Q:VK),Inv X Y U H s->RelV o ov->RelV i iv->t o i H Q->
  wpAny (model X.prog X.w) X.A (getItem ov iv) (EP X Y U Q) X.xe s
def Bk {o i:Expr}{to ti:TE}{tget:V->V->Hp->VK->Prop}{tip:Ig}{tset:t5}{op:Operator}{tpos:Pos}(ho:PE X o to)(hi:PE X i ti)(hg:DM X tget)(he:PE X e te)(hp:Ii X op tip)(hs:Bw X tset)
  (ha:∀ ov iv new,augStore i ov iv new=(do holding [new,ov,iv] (setItem ov iv new);release [new,ov,iv] [];pure .next):=by intros;rfl):PS X (.AugAssign (.Subscript o i tpos) op e pos) (FY to ti te tget tip tset):=by
 intro Y s U H D I h;refine wpAny_AugAssign_SubscriptAny (ax (ho Y s U H _ I h) λov s1 ⟨x1,H1,I1,r1,q1⟩=>?_) ha;refine ax (hi Y s1 U H1 _ I1 q1) λiv s2 ⟨x2,H2,I2,r2,q2⟩=>?_
 refine ax (hg Y s2 U H2 x1 x2 ov iv _ I2 r1 r2 q2) λold s3 ⟨x3,H3,I3,r3,q3⟩=>?_
 refine ax (he Y s3 U H3 _ I3 q3) λv s4 ⟨x4,H4,I4,r4,q4⟩=>?_
 refine ax (hp Y s4 U H4 x3 x4 old v _ I4 r3 r4 q4) λnew s5 ⟨x5,H5,I5,r5,q5⟩=>?_
 exact ax (hs Y s5 U H5 x1 x2 x5 ov iv new _ I5 r1 r2 r5 q5) λ_ s6 ⟨H6,I6,q6⟩=>⟨U,H6,I6,q6⟩
abbrev Kg (f:Int->Int->Int):Ig:=λx y H Q=>∃ i j,x=.int i/\y=.int j/\Q (.int (f i j)) H
def DC:Ii X .Add (Kg λi j=>i+j):=by
 intro Y s U H x y v u Q I r1 r2 h;obtain⟨i,j,e1,e2,q⟩:=h;subst e1;subst e2;obtain⟨t,rfl⟩:=r1;obtain⟨t',rfl⟩:=r2;exact iadd_int ⟨.int _,H,I.tok _,⟨_,rfl⟩,q⟩
def E8:Ii X .Sub (Kg λi j=>i-j):=by
 intro Y s U H x y v u Q I r1 r2 h;obtain⟨i,j,e1,e2,q⟩:=h;subst e1;subst e2;obtain⟨t,rfl⟩:=r1;obtain⟨t',rfl⟩:=r2;exact isub_int ⟨.int _,H,I.tok _,⟨_,rfl⟩,q⟩
end
variable {body:List Stmt}
section
variable {X:Cx}{pos:Pos}
abbrev DJ (c:TT)(tb:TS):TS:=λD U H=>∃ W:Nat->St->Hp->Prop,(∃ m,W m U H)/\∀ m U H,W m U H->
 c U H λb H1=>if b=true then ∃ N:St->Hp->Prop,(∀ σ' H',N σ' H'->∃ m',m'<m/\W m' σ' H')/\tb { D with nx:=N,ct:=N,bk:=D.nx } U H1 else D.nx U H1
def v9 {tc:TT}{tb:TS}(hp:PassesOwn (model X.prog X.w) X.A X.env X.xe)(hc:PT X c tc)(hb:Bv X body tb):PS X (.While c body [] pos) (DJ tc tb):=by
 intro Y s U H D I h;obtain⟨W,⟨m0,w0⟩,turn⟩:=h;refine wpAny_While (codeAny_whileLoop (λn s'=>∃ σ' H',Inv X Y σ' H' s'/\W n σ' H') ?_ m0 ⟨U,H,I,w0⟩);rintro n s1 ⟨σ1,H1,I1,w1⟩;refine wpAny_passesOwn hp (ax (hc Y s1 σ1 H1 _ I1 (turn n σ1 H1 w1)) λb s2 ⟨H2,I2,q2⟩=>?_);cases b with
 |true=>
  obtain⟨N,hN,q2⟩:=q2;rw[if_pos rfl];refine wpAny_passesOwn hp (ax (hb Y s2 σ1 H2 _ I2 q2) λf s3 q3=>?_);cases f with
  |next=>
   obtain⟨σ3,H3,I3,n3⟩:=q3;obtain⟨m',hm,w3⟩:=hN σ3 H3 n3;exact⟨m',hm,σ3,H3,I3,w3⟩
  |cont=>
   obtain⟨σ3,H3,I3,n3⟩:=q3;obtain⟨m',hm,w3⟩:=hN σ3 H3 n3;exact⟨m',hm,σ3,H3,I3,w3⟩
  |brk=>exact q3
  |ret v=>exact q3
 |false=>
  rw[if_neg Bool.false_ne_true];exact wpAny_execs_nil ⟨σ1,H2,I2,q2⟩
end
structure It where
 go:Nat->Hp->Prop
 yld:Nat->Hp->V->Hp->Prop
 stop:Nat->Hp->Prop
abbrev fO (X:Cx)(Y:K2)(H:Hp)(b:Addr):Prop:=
 H b=none/\b≠X.env.locals/\b ∉ X.fs/\(b ∈ X.ex\/X.s₀.heap.objs.size<=b)/\(∀ x c,X.env.cells.lookup x=some c->c≠b)/\∀ p ∈ X.pn++Y,p.1≠b
def Inv.lL {X:Cx}{H':Hp}(I:Inv X Y U H s)(hb:s.heap.objs.size<=b)(hn:H' b=none):fO X Y H' b:=by
 refine⟨hn,Nat.ne_of_gt (nw I.lt hb),I.Jh hb,.inr (Nat.le_trans I.sz hb),λx c e z=>?_,λp hp z=>?_⟩
 .obtain⟨v,q⟩:=I.cell x c e;exact absurd (nw q.lt (by rw[z];exact hb)) (Nat.lt_irrefl _)
 .exact absurd (nw (ut (I.pin p hp).1) (by rw[z];exact hb)) (Nat.lt_irrefl _)
noncomputable abbrev Calm (X:Cx):Prop:=X.calm=true
abbrev eY (X:Cx):Prop:=∃ e C dx fs,X.A.handled=some (.ref e)/\X.H₀ e=some (.exc C dx fs false)
structure Turn (P:Program) (w:World) (K:W.Frag) (ok:Cx->Prop) (tg:Expr) (J:It) (fp:List Addr) (it:Addr) (tn:Nat->Heap->Prop):Prop where
 mem:it ∈ fp
 obj:∀ i h,tn i h->∀ b ∈ fp,∃ o,h.get? b=some o/\∀ v,o.data≠.cell v
 keep:∀ i h h',tn i h->(∀ b ∈ fp,∀ o,h.get? b=some o->h'.get? b=some o)->tn i h'
 item:∀ (X:Cx),X.prog=P->X.w=w->X.K=K->ok X->∀ (i:Nat) (Y:K2) (s:Shared) (U:St) (H:Hp) (E:K1),Inv X Y U H s->(∀ b ∈ fp,fO X Y H b)->tn i s.heap->J.go i H->
  wpAny (model P w) X.A (pyNext (.ref it)) (λr s1=>∃ u,r=some u/\
   wpAny (model P w) X.A (letOwnedTupleGo tg (.ref it) u) (λ_ s2=>∃ x H',Inv X Y U H' s2/\RelV x u/\J.yld i H x H'/\tn (i+1) s2.heap/\∀ b ∈ fp,H' b=none) E s1) E s
 done:∀ (X:Cx),X.prog=P->X.w=w->X.K=K->ok X->∀ (i:Nat) (Y:K2) (s:Shared) (U:St) (H:Hp) (E:K1),Inv X Y U H s->(∀ b ∈ fp,fO X Y H b)->tn i s.heap->J.stop i H->
  wpAny (model P w) X.A (pyNext (.ref it)) (λr s1=>r=none/\Inv X Y U H s1) E s
 self:∀ (A:Around) (i:Nat) (s:Shared) (Q:K1) (E:K1),tn i s.heap->Q (.ref it) s->wpAny (model P w) A (pyIter (.ref it)) Q E s
@[reducible]def TI:=St->Hp->(It->Hp->Prop)->Prop
abbrev DR (ok:Cx->Prop)(X:Cx)(Y:K2)(U:St)(tg:Expr)(R:It->Hp->Prop)(itv:Value)(s2:Shared):Prop:=
 ∃ (it:Addr) (fp:List Addr) (tn:Nat->Heap->Prop) (J:It) (H':Hp),itv=.ref it/\Inv X Y U H' s2/\Turn X.prog X.w X.K ok tg J fp it tn/\tn 0 s2.heap/\(∀ b ∈ fp,fO X Y H' b)/\R J H'
abbrev BV (ok:Cx->Prop)(X:Cx)(tg iter:Expr)(wi:TI):Prop:=
 ∀ (Y:K2) (s:Shared) (U:St) (H:Hp) (R:It->Hp->Prop),Inv X Y U H s->wi U H R->
  wpAny (model X.prog X.w) X.A (eval iter X.env) (λv s1=>wpAny (model X.prog X.w) X.A (pyIter v) (DR ok X Y U tg R) X.xe s1) X.xe s
noncomputable abbrev G9 (X:Cx)(Y:K2)(U:St)(tg:Expr)(R:It->Hp->Prop)(itv:Value)(s2:Shared):Prop:=DR Calm X Y U tg R itv s2
noncomputable abbrev PI (X:Cx)(tg iter:Expr)(wi:TI):Prop:=BV Calm X tg iter wi
def kM {it:Addr}{o:Obj}{n:String}{vs:Array Value}{Q:KZ}(ho:s.heap.get? it=some o)(hc:o.cls=.type n)(hd:o.data=.fields vs)
  (hn:["enumerate","zip","dict_itemiterator","dict_reverseitemiterator","odict_iterator","itertools.zip_longest","itertools.pairwise"].contains n=false) (hQ:Q () s):wpAny M A (letOwnedTupleGo tg (.ref it) u) Q E s:=by
 unfold letOwnedTupleGo;cases tg<;>first
  |exact am hQ
  |(cases u<;>first
    |exact am hQ
    |(refine ad (wpAny_load ho ?_)
      rw[hc,hd];show wpAny M A (if(["enumerate","zip","dict_itemiterator","dict_reverseitemiterator","odict_iterator","itertools.zip_longest","itertools.pairwise"].contains n&&vs[0]? ==some (rawInt _))=true then _ else _) Q E s;rw[if_neg (by intro h;rw[hn,Bool.false_and]at h;cases h)];exact am hQ))
abbrev Fu (K:W.Frag)(a:Addr):It:=
 ⟨λi H=>∃ xs x,ba K H a xs/\xs[i]? =some x,λi H x H'=>H'=H/\∀ xs,ba K H a xs->xs[i]? =some x,λi H=>∃ xs,ba K H a xs/\xs.length<=i⟩
abbrev vo (K:W.Frag)(a:Addr):It:=
 ⟨λi H=>∃ xs x,aX K H a xs/\xs[i]? =some x,λi H x H'=>H'=H/\∀ xs,aX K H a xs->xs[i]? =some x,λi H=>∃ xs,aX K H a xs/\xs.length<=i⟩
abbrev FD (lo:Int)(n:Nat):It:=⟨λi _=>i<n,λi H x H'=>H'=H/\x=.int (lo+i),λi _=>n<=i⟩
def uq (a it:Addr):Turn P w K Calm tg (Fu K a) [it] it (λi h=>h.IsListIter it a i) where
 mem:=by simp
 obj:=λi h st b hb=>by
  have e:b=it:=by simpa using hb
  subst e;obtain⟨o,e,c,d⟩:=st;exact⟨o,e,λv z=>by rw[d]at z;cases z⟩
 keep:=λi h h' st k=>st.at λo e=>k it (by simp) o e
 item:=by
  intro X hP hw hK hc i Y s U H E I hf st hg;subst hP hw hK;obtain⟨xs,x,hq,hx⟩:=hg;obtain⟨its,rv,p,hz⟩:=I.list hq;obtain⟨u,hu,ru⟩:=rv.get hx;obtain⟨f0,f1,f2,f3,f4,f5⟩:=hf it (by simp);refine wpAny_pyNext_list_item st p.isList (x:=u) (by simpa using hu) λh' st' sb=>?_
  have I1:Inv X Y U H { s with heap:=h' }:=I.turned (t':=s.toks) (λb o hb e=>(sb.2 b hb).trans e) f0 f1 f3 f4 f5;obtain⟨o,e,c,d⟩:=id st';exact⟨u,rfl,kM (s:={ s with heap:=h' }) e c d (by decide) ⟨x,H,I1,ru,⟨rfl,λys hy=>by rw[I.jU hy hq];exact hx⟩,st',λb hb=>(hf b hb).1⟩⟩
 done:=by
  intro X hP hw hK hc i Y s U H E I hf st hg;subst hP hw hK;obtain⟨xs,hq,hx⟩:=hg;obtain⟨its,rv,p,hz⟩:=I.list hq;obtain⟨f0,f1,f2,f3,f4,f5⟩:=hf it (by simp);have hl:=rv.length;exact wpAny_pyNext_list_end (I.ok.hd hc) st p.isList (by simp;omega) λh' eb=>⟨rfl,I.turned (t':=s.toks) (λb o hb e=>eb b o hb e) f0 f1 f3 f4 f5⟩
 self:=λ_ _ _ _ _ st h=>wpAny_pyIter_listiter st h
def cf (a it:Addr):Turn P w K Calm tg (vo K a) [it] it (λi h=>h.IsTupleIter it a i) where
 mem:=by simp
 obj:=λi h st b hb=>by
  have e:b=it:=by simpa using hb
  subst e;obtain⟨o,e,c,d⟩:=st;exact⟨o,e,λv z=>by rw[d]at z;cases z⟩
 keep:=λi h h' st k=>st.at λo e=>k it (by simp) o e
 item:=by
  intro X hP hw hK hc i Y s U H E I hf st hg;subst hP hw hK;obtain⟨xs,x,hq,hx⟩:=hg;obtain⟨its,rv,p,hz⟩:=I.tuple hq;obtain⟨u,hu,ru⟩:=rv.get hx;obtain⟨f0,f1,f2,f3,f4,f5⟩:=hf it (by simp);refine wpAny_pyNext_tuple_item st (show s.heap.IsTuple a its.toArray from p) (x:=u) (by simpa using hu) λh' st' sb=>?_
  have I1:Inv X Y U H { s with heap:=h' }:=I.turned (t':=s.toks) (λb o hb e=>(sb.2 b hb).trans e) f0 f1 f3 f4 f5;obtain⟨o,e,c,d⟩:=id st';exact⟨u,rfl,kM (s:={ s with heap:=h' }) e c d (by decide) ⟨x,H,I1,ru,⟨rfl,λys hy=>by rw[I.cB hy hq];exact hx⟩,st',λb hb=>(hf b hb).1⟩⟩
 done:=by
  intro X hP hw hK hc i Y s U H E I hf st hg;subst hP hw hK;obtain⟨xs,hq,hx⟩:=hg;obtain⟨its,rv,p,hz⟩:=I.tuple hq;obtain⟨f0,f1,f2,f3,f4,f5⟩:=hf it (by simp);have hl:=rv.length;exact wpAny_pyNext_tuple_end (I.ok.hd hc) st (show s.heap.IsTuple a its.toArray from p) (by simp;omega) λh' eb=>⟨rfl,I.turned (t':=s.toks) (λb o hb e=>eb b o hb e) f0 f1 f3 f4 f5⟩
 self:=λ_ _ _ _ _ st h=>wpAny_pyIter_tupleiter st h
def rA (it:Addr)(lo:Int)(n:Nat):Turn P w K Calm tg (FD lo n) [it] it (λi h=>IsRangeIter h it (lo+(i:Nat)*1) ((n:Int)-(i:Nat)) 1) where
 mem:=by simp
 obj:=λi h st b hb=>by
  have e:b=it:=by simpa using hb
  subst e;exact⟨_,st,λv z=>by
   have z':Data.fields _=Data.cell v:=z;cases z'⟩
 keep:=λi h h' st k=>k it (by simp) _ st
 item:=by
  intro X hP hw hK hc i Y s U H E I hf st hg;subst hP hw hK;obtain⟨f0,f1,f2,f3,f4,f5⟩:=hf it (by simp);have W:=Walks.range (prog:=X.prog) (w:=X.w) (I.ok.hd hc) it lo 1 n;refine W.item i s _ _ hg st λv h' tk hv st' kk=>?_
  obtain⟨t,rfl⟩:=hv;have I1:Inv X Y U H { s with heap:=h',toks:=tk }:=I.turned (λb o hb e=>kk b o (by simpa using hb) e) f0 f1 f3 f4 f5;refine⟨_,rfl,kM (s:={ s with heap:=h',toks:=tk }) (n:="range_iterator") st' rfl rfl (by decide) ⟨.int (lo+i),H,I1,⟨t,?_⟩,⟨rfl,rfl⟩,st',λb hb=>(hf b hb).1⟩⟩;rw[Int.mul_one]
 done:=by
  intro X hP hw hK hc i Y s U H E I hf st hg;subst hP hw hK;obtain⟨f0,f1,f2,f3,f4,f5⟩:=hf it (by simp);exact wpAny_pyNext_range_end (I.ok.hd hc) st (by have:n<=i:=hg;omega) λh' eb=>⟨rfl,I.turned (t':=s.toks) (λb o hb e=>eb b o hb e) f0 f1 f3 f4 f5⟩
 self:=λ_ _ _ _ _ st h=>wpAny_pyIter_rangeiter st h
variable {pos:Pos}{fp:List Addr}
section
variable {X:Cx}{tg:Expr}
def vZ {R:It->Hp->Prop}{lo hi:Int}{t u v:Tok}{tk:Nat}(I:Inv X Y U H s)(h1: -(2 ^ 62)<=lo)(h2:lo<2 ^ 62)(h3: -(2 ^ 62)<=hi)(h4:hi<2 ^ 62)
  (q:R (FD lo (hi-lo).toNat) H):wpAny (model X.prog X.w) X.A (pyIter (.ref s.heap.objs.size)) (G9 X Y U tg R) E { s with heap:=s.heap.push { cls:=.type "range",data:=.fields #[.int lo t,.int hi u,.int 1 v] },toks:=tk }:=by
 refine wpAny_pyIter_range (IsRange.new ..) (small_one h1 h2 h3 h4) ?_;have I1:Inv X Y U H { s with heap:=s.heap.push { cls:=.type "range",data:=.fields #[.int lo t,.int hi u,.int 1 v] },toks:=tk }:=I.kept λb o e=>ul _ e
 refine⟨(s.heap.push { cls:=.type "range",data:=.fields #[.int lo t,.int hi u,.int 1 v] }).objs.size,[(s.heap.push { cls:=.type "range",data:=.fields #[.int lo t,.int hi u,.int 1 v] }).objs.size],_,_,H,rfl,
  I1.kept (t':=tk) λb o e=>ul _ e,rA _ lo (hi-lo).toNat,?_,λb hb=>?_,q⟩
 .have e1:lo+((0:Nat):Int)*1=lo:=by simp
  have e2:(((hi-lo).toNat:Nat):Int)-((0:Nat):Int)=Builtin.Range.rangeSize lo hi 1:=by rw[rangeSize_one];split<;>omega
  show IsRangeIter _ _ (lo+((0:Nat):Int)*1) ((((hi-lo).toNat:Nat):Int)-((0:Nat):Int)) 1;rw[e1,e2];exact v0 _ rfl
 .have e:b=(s.heap.push { cls:=.type "range",data:=.fields #[.int lo t,.int hi u,.int 1 v] }).objs.size:=by simpa using hb
  subst e;exact I1.lL (re _) (I1.hok.fresh (re _))
abbrev Gf (ta:TA):TI:=λU H R=>ta U H λvs H1=>∃ j:Int,vs=[.int j]/\ -(2 ^ 62)<=j/\j<2 ^ 62/\R (FD 0 j.toNat) H1
def ug {a:Expr}{ta:TA}{p:Pos}(hg:Gl X "range") (hm:X.mg "range"=none) (ha:PA X [a] ta) (hs:bm [a] X.env=[(false,eval a X.env)]:=by rfl):PI X tg (.Call (.Name "range" p) [a] [] pos) (Gf ta):=by
 intro Y s U H R I h;refine Call_ (bN I hg hm boot_range (PyProof.Rows.callWith_type1 (ax (ha pos Y s U H _ I h) λus s1 ⟨vs,H1,I1,r1,q1⟩=>?_) hs rfl));obtain⟨j,e,q1,q2,q⟩:=q1;subst e;cases r1 with
 |cons r rr=>
  cases rr;obtain⟨t,rfl⟩:=r;exact call_range_1 (vZ I1 nofun nofun q1 q2 (by simpa using q))
abbrev Jq (wi:TI)(g:TG)(tb:TS):TS:=λD U H=>wi U H λJ H1=>∃ W:Nat->Nat->St->Hp->Prop,(∃ m,W 0 m U H1)/\∀ i m U H,W i m U H->
 (J.stop i H/\D.nx U H)\/(J.go i H/\∃ N:St->Hp->Prop,(∀ σ' H',N σ' H'->∃ m',m'<m/\W (i+1) m' σ' H')/\∀ x H',J.yld i H x H'->g x U H' λσ2 H2=>tb { D with nx:=N,ct:=N,bk:=D.nx } σ2 H2)
abbrev mQ (fp:List Addr)(h:Heap):List (Addr×Obj):=fp.filterMap λb=>(h.get? b).map λo=>(b,o)
def bC {o:Obj}(hb:b ∈ fp)(e:h.get? b=some o):(b,o) ∈ mQ fp h:=List.mem_filterMap.mpr ⟨b,hb,by rw[e];rfl⟩
def uE {p:Addr×Obj}(hp:p ∈ mQ fp h):p.1 ∈ fp/\h.get? p.1=some p.2:=by
 obtain⟨b,hb,e⟩:=List.mem_filterMap.mp hp;cases q:h.get? b with
 |none=>rw[q]at e;cases e
 |some o=>
  rw[q]at e;have e':(b,o)=p:=Option.some.inj e;subst e';exact⟨hb,q⟩
def Inv.pinned (I:Inv X Y U H s)(hf:∀ b ∈ fp,fO X Y H b) (ho:∀ b ∈ fp,∃ o,s.heap.get? b=some o/\∀ v,o.data≠.cell v):Inv X (Y++mQ fp s.heap) U H s:=
 I.md λp hp=>(mem_append.mp hp).elim (λz=>I.pin p (im _ z)) λz=>by
  obtain⟨hb,e⟩:=uE z;obtain⟨f0,f1,f2,_⟩:=hf p.1 hb;obtain⟨o,e',d⟩:=ho p.1 hb;rw[e]at e';cases e';exact⟨e,f0,f1,f2,d⟩
def Inv.dG {pl:K2}(I:Inv X (Y++pl) U H s):Inv X Y U H s:=I.md λp hp=>I.pin p (im _ (mem_append_left _ hp))
def DB {iter:Expr}{wi:TI}{g:TG}{tb:TS}(hp:PassesOwn (model X.prog X.w) X.A X.env X.xe)(hc:X.calm=true)(hi:PI X tg iter wi)(hg:PG X tg g)(hb:Bv X body tb)
  (hs:∀ x,foldedSetIterable iter X.env x=pure x:=by intro _;rfl):PS X (.For tg iter body [] pos) (Jq wi g tb):=by
 intro Y s U H D I h;refine wpAny_For (ax (hi Y s U H _ I h) λv s1 h1=>ax h1 λitv s2 h2=>?_) hs;obtain⟨it,fp,tn,J,H2,e,I2,T,nH,f2,W,⟨m0,w0⟩,turn⟩:=h2;subst e;have stat:∀ {H':Hp},(∀ b ∈ fp,H' b=none)->∀ b ∈ fp,fO X Y H' b:=λhn b hb=>⟨hn b hb,(f2 b hb).2⟩
 refine codeAny_forLoop_any (λn s'=>∃ i σ' H',Inv X Y σ' H' s'/\tn i s'.heap/\(∀ b ∈ fp,H' b=none)/\W i n σ' H') ?_ m0 ⟨0,U,H2,I2,nH,λb hb=>(f2 b hb).1,w0⟩;rintro n s3 ⟨i,σ3,H3,I3,st3,fr3,w3⟩;rcases turn i n σ3 H3 w3 with⟨stop,qn⟩|⟨go,N,hN,step⟩
 .refine wpAny_passesOwn hp (ax (T.done X rfl rfl rfl hc i Y s3 σ3 H3 X.xe I3 (stat fr3) st3 stop) λr s4 ⟨hr,I4⟩=>?_);subst hr;exact wpAny_execs_nil ⟨σ3,H3,I4,qn⟩
 .refine wpAny_passesOwn hp (ax (T.item X rfl rfl rfl hc i Y s3 σ3 H3 X.xe I3 (stat fr3) st3 go) λr s4 ⟨u,hr,h4⟩=>?_);subst hr;refine wpAny_passesOwn hp (ax h4 λ_ s5 ⟨x,H5,I5,r5,y5,st5,fr5⟩=>?_);have I5':=I5.pinned (stat fr5) (T.obj _ _ st5);refine wpAny_passesOwn hp (ax (hg _ s5 σ3 H5 x u _ I5' r5 (step x H5 y5)) λ_ s6 ⟨σ6,H6,I6,q6⟩=>?_);refine wpAny_passesOwn hp (ax (hb _ s6 σ6 H6 _ I6 q6) λf s7 q7=>?_);have again:∀ {σ7:St}{H7:Hp},Inv X (Y++mQ fp s5.heap) σ7 H7 s7->N σ7 H7->∃ m,m<n/\∃ i σ' H',Inv X Y σ' H' s7/\tn i s7.heap/\(∀ b ∈ fp,H' b=none)/\W i m σ' H':=λ{σ7 H7} I7 n7=>by
   obtain⟨m',hm,w7⟩:=hN σ7 H7 n7;refine⟨m',hm,i+1,σ7,H7,I7.dG,T.keep _ _ _ st5 λb hb o e=>(I7.pin (b,o) (im _ (im _ (bC hb e)))).1,λb hb=>?_,w7⟩;obtain⟨o,e,d⟩:=T.obj _ _ st5 b hb;exact(I7.pin (b,o) (im _ (im _ (bC hb e)))).2.1
  cases f with
  |next=>obtain⟨σ7,H7,I7,n7⟩:=q7;exact again I7 n7
  |cont=>obtain⟨σ7,H7,I7,n7⟩:=q7;exact again I7 n7
  |brk=>obtain⟨σ7,H7,I7,q7⟩:=q7;exact⟨σ7,H7,I7.dG,q7⟩
  |ret v=>obtain⟨x7,σ7,H7,I7,r7,q7⟩:=q7;exact⟨x7,σ7,H7,I7.dG,r7,q7⟩
end
@[reducible]def R2:=V->V->Hp->VK->Prop
abbrev cI (X:Cx)(f:Value->Value->Sem Value)(r:R2):Prop:=
 ∀ (Y:K2) (s:Shared) (U:St) (H:Hp) (x y:V) (v u:Value) (Q:VK),Inv X Y U H s->RelV x v->RelV y u->r x y H Q->
  wpAny (model X.prog X.w) X.A (f v u) (EP X Y U Q) X.xe s
abbrev Ie (X:Cx)(f:Value->Sem Value)(r:V->Hp->VK->Prop):Prop:=
 ∀ (Y:K2) (s:Shared) (U:St) (H:Hp) (x:V) (v:Value) (Q:VK),Inv X Y U H s->RelV x v->r x H Q->
  wpAny (model X.prog X.w) X.A (f v) (EP X Y U Q) X.xe s
abbrev cp (X:Cx)(f:Value)(r:List V->Hp->VK->Prop):Prop:=
 ∀ (Y:K2) (s:Shared) (U:St) (H:Hp) (xs:List V) (us:List Value) (Q:VK),Inv X Y U H s->Vals xs us->r xs H Q->
  wpAny (model X.prog X.w) X.A (call f us) (EP X Y U Q) X.xe s
abbrev ID (X:Cx)(r:V->Hp->(Bool->Hp->Prop)->Prop):Prop:=
 ∀ (Y:K2) (s:Shared) (U:St) (H:Hp) (x:V) (v:Value) (Q:Bool->Hp->Prop),Inv X Y U H s->RelV x v->r x H Q->
  wpAny (model X.prog X.w) X.A (truthy v) (TP X Y U Q) X.xe s
abbrev Ik (r:R2)(ta tb:TE):TE:=λU H Q=>ta U H λx H1=>tb U H1 λy H2=>r x y H2 Q
abbrev KU (r:V->Hp->VK->Prop)(ta:TE):TE:=λU H Q=>ta U H λx H1=>r x H1 Q
abbrev rI (C:Int->Int->Prop)(g:Int->Int->V):R2:=λx y H Q=>∃ i j,x=.int i/\y=.int j/\C i j/\Q (g i j) H
abbrev A3 (g:Int->Int->V):R2:=λx y H Q=>∃ i j,x=.int i/\y=.int j/\Q (g i j) H
abbrev rU (g:Int->V):V->Hp->VK->Prop:=λx H Q=>∃ i,x=.int i/\Q (g i) H
variable {f:Value->Value->Sem Value}{r:R2}{g:Int->Int->Int}
section
variable {X:Cx}{a b c:Expr}{ta tb tc:TE}{pos:Pos}
def Ed (ha:PE X a ta)(hb:PE X b tb){R:V->V->Hp->Prop}(I:Inv X Y U H s)
  (h:ta U H λx H1=>tb U H1 λy H2=>R x y H2)
  (hf:∀ v u s2 x y H2,Inv X Y U H2 s2->RelV x v->RelV y u->R x y H2->wpAny (model X.prog X.w) X.A (f v u) Q X.xe s2):
  wpAny (model X.prog X.w) X.A (eval a X.env) (λv s₁=>wpAny (model X.prog X.w) X.A (eval b X.env) (λu s₂=>wpAny (model X.prog X.w) X.A (f v u) Q X.xe s₂) X.xe s₁) X.xe s:=by
 refine ax (ha Y s U H _ I h) λv s1 ⟨x,H1,I1,r1,q1⟩=>?_
 refine ax (hb Y s1 U H1 _ I1 q1) λu s2 ⟨y,H2,I2,r2,q2⟩=>?_
 exact hf v u s2 x y H2 I2 r1 r2 q2
def G7 {op:Operator}(ho:cI X (binaryOp op) r)(ha:PE X a ta)(hb:PE X b tb):PE X (.BinOp a op b pos) (Ik r ta tb):=by
 intro Y s U H Q I h;exact wpAny_BinOp (Ed ha hb I h λv u s2 x y H2 I2 rx ry q=>ho Y s2 U H2 x y v u Q I2 rx ry q)
def Ge {op:UnaryOp}{r:V->Hp->VK->Prop}(ho:Ie X (unaryOp op) r)(ha:PE X a ta):PE X (.UnaryOp op a pos) (KU r ta):=by
 intro Y s U H Q I h;exact UnaryOp_ (ax (ha Y s U H _ I h) λv s1 ⟨x,H1,I1,r1,q1⟩=>ho Y s1 U H1 x v Q I1 r1 q1)
def Il {C:Int->Int->Prop}
  (rule:∀ (i j:Int) (t u:Tok) (s:Shared) (Q:K1) (E:K1),C i j->Q (.int (g i j) s.toks) { s with toks:=s.toks+1 }->wpAny (model X.prog X.w) X.A (f (.int i t) (.int j u)) Q E s):
  cI X f (rI C λi j=>.int (g i j)):=by
 intro Y s U H x y v u Q I rx ry h;obtain⟨i,j,rfl,rfl,hc,q⟩:=h;obtain⟨t,rfl⟩:=rx;obtain⟨t',rfl⟩:=ry;exact rule i j t t' s _ _ hc ⟨.int (g i j),H,I.tok _,⟨_,rfl⟩,q⟩
def Hh 
  (rule:∀ (i j:Int) (t u:Tok) (s:Shared) (Q:K1) (E:K1),Q (.int (g i j) s.toks) { s with toks:=s.toks+1 }->wpAny (model X.prog X.w) X.A (f (.int i t) (.int j u)) Q E s):
  cI X f (A3 λi j=>.int (g i j)):=by
 intro Y s U H x y v u Q I rx ry h;obtain⟨i,j,rfl,rfl,q⟩:=h;obtain⟨t,rfl⟩:=rx;obtain⟨t',rfl⟩:=ry;exact rule i j t t' s _ _ ⟨.int (g i j),H,I.tok _,⟨_,rfl⟩,q⟩
def zX {g:Int->Int->Bool}
  (rule:∀ (i j:Int) (t u:Tok) (s:Shared) (Q:K1) (E:K1),Q (.bool (g i j)) s->wpAny (model X.prog X.w) X.A (f (.int i t) (.int j u)) Q E s):
  cI X f (A3 λi j=>.bl (g i j)):=by
 intro Y s U H x y v u Q I rx ry h;obtain⟨i,j,rfl,rfl,q⟩:=h;obtain⟨t,rfl⟩:=rx;obtain⟨t',rfl⟩:=ry;exact rule i j t t' s _ _ ⟨.bl (g i j),H,I,rfl,q⟩
abbrev Ja (i j:Int):Prop:=0<j/\j<1073741824
abbrev zq (i j:Int):Prop:=0<=j/\j<=1000000/\i.natAbs<2 ^ 64
abbrev pk (i j:Int):Prop:=(-(2 ^ 64)<i/\i<2 ^ 64)\/(-(2 ^ 64)<j/\j<2 ^ 64)
def pk.ok {i j:Int}(h:pk i j):IntMulOk i j:=by
 rcases h with⟨h1,h2⟩|⟨h1,h2⟩
 .exact .of_left (intBits_le_64 h1 h2)
 .exact .of_right (intBits_le_64 h1 h2)
def Eg:cI X (binaryOp .Add) (A3 λi j=>.int (i+j)):=Hh λ_ _ _ _ _ _ _ q=>add_int q
def DA:cI X (binaryOp .Sub) (A3 λi j=>.int (i-j)):=Hh λ_ _ _ _ _ _ _ q=>sub_int q
def Du:cI X (binaryOp .Mult) (rI pk λi j=>.int (i*j)):=Il λ_ _ _ _ _ _ _ hc q=>mul_int q hc.ok
def Aj:cI X (binaryOp .FloorDiv) (rI Ja λi j=>.int (i / j)):=Il λi j _ _ _ _ _ hc q=>by
 have h1:(0:Int)<j:=hc.1;have h2:j<1073741824:=hc.2;exact floordiv_int nofun (by rw[Int.fdiv_eq_ediv_of_nonneg i nofun];exact q) (.inl (PyProof.noPylong_small nofun))
def E7:cI X (binaryOp .Mod) (rI (λ_ j=>0<j) λi j=>.int (i % j)):=Il λi j _ _ _ _ _ hc q=>by
 have h1:(0:Int)<j:=hc;exact mod_int' nofun (by rw[Int.fmod_eq_emod_of_nonneg i nofun];exact q)
def C6:cI X (binaryOp .Pow) (rI zq λi j=>.int (i ^ j.toNat)):=Il λ_ _ _ _ _ _ _ hc q=>pow_int_small hc.1 hc.2.1 hc.2.2 q
def Ko {f:Value->Sem Value}{g:Int->Int}
  (rule:∀ (i:Int) (t:Tok) (s:Shared) (Q:K1) (E:K1),Q (.int (g i) s.toks) { s with toks:=s.toks+1 }->wpAny (model X.prog X.w) X.A (f (.int i t)) Q E s):
  Ie X f (rU λi=>.int (g i)):=by
 intro Y s U H x v Q I rx h;obtain⟨i,rfl,q⟩:=h;obtain⟨t,rfl⟩:=rx;exact rule i t s _ _ ⟨.int (g i),H,I.tok _,⟨_,rfl⟩,q⟩
def Em:Ie X (unaryOp .USub) (rU λi=>.int (-i)):=Ko λ_ _ _ _ _ q=>neg_int q
end
variable {op:CmpOp}
section
variable {X:Cx}{a b c:Expr}{ta tb tc:TE}{pos:Pos}
def x9 {Q:VK}{k k':Bool}(I:Inv X Y U H s)(q:Q (.bl k) H)(e:k=k'):EP X Y U Q (.bool k') s:=by
 subst e;exact⟨.bl k,H,I,rfl,q⟩
def FO:cI X (compareOp .Lt) (A3 λi j=>.bl (decide (i<j))):=zX λ_ _ _ _ _ _ _ q=>lt_int q
def Gz:cI X (compareOp .LtE) (A3 λi j=>.bl (decide (i<=j))):=zX λ_ _ _ _ _ _ _ q=>le_int q
def Hw:cI X (compareOp .Gt) (A3 λi j=>.bl (decide (j<i))):=zX λ_ _ _ _ _ _ _ q=>gt_int q
def FT:cI X (compareOp .GtE) (A3 λi j=>.bl (decide (j<=i))):=zX λ_ _ _ _ _ _ _ q=>ge_int q
def DV:cI X (compareOp .Is) (λx y H Q=>y=.non/\Q (.bl (decide (x=.non))) H):=by
 intro Y s U H x y v u Q I rx ry h;obtain⟨rfl,q⟩:=h;cases ry;refine is_none_gen (x9 I q ?_);cases x<;>first
  |(cases rx;rfl)
  |(obtain⟨t,rfl⟩:=rx;rfl)
def zA:cI X (compareOp .IsNot) (λx y H Q=>y=.non/\Q (.bl (!decide (x=.non))) H):=by
 intro Y s U H x y v u Q I rx ry h;obtain⟨rfl,q⟩:=h;cases ry;refine isnot_none_gen (x9 I q ?_);cases x<;>first
  |(cases rx;rfl)
  |(obtain⟨t,rfl⟩:=rx;rfl)
def AU (ho:cI X (compareOp op) r)(ha:PE X a ta)(hb:PE X b tb)(hm:behindInMarks op b=false):PE X (.Compare a [op] [b] pos) (Ik r ta tb):=by
 intro Y s U H Q I h;exact wpAny_Compare1 (Ed ha hb I h λv u s2 x y H2 I2 rx ry q=>ho Y s2 U H2 x y v u Q I2 rx ry q) hm
abbrev B4 (t:TE):TT:=λU H Q=>t U H λx H'=>∃ k,x=.bl k/\Q k H'
def zI (ho:cI X (compareOp op) r)(ha:PE X a ta)(hb:PE X b tb)(hm:behindInMarks op b=false):PT X (.Compare a [op] [b] pos) (B4 (Ik r ta tb)):=by
 intro Y s U H Q I h;refine wpAny_isTrue_Compare1 (ax (ha Y s U H _ I h) λv s1 ⟨x,H1,I1,r1,q1⟩=>ax (hb Y s1 U H1 _ I1 q1) λu s2 ⟨y,H2,I2,r2,q2⟩=>
  ax (ho Y s2 U H2 x y v u _ I2 r1 r2 q2) λc s3 ⟨z,H3,I3,r3,k,e,q3⟩=>?_) hm
 subst e;cases r3;exact bi ⟨H3,I3,q3⟩
abbrev we (r r':R2)(ta tb tc:TE):TE:=λU H Q=>ta U H λx H1=>tb U H1 λy H2=>r x y H2 λz H3=>∃ k,z=.bl k/\
 (if k=true then tc U H3 λw' H4=>r' y w' H4 Q else Q (.bl false) H3)
def xN {op':CmpOp}{r':R2}(ho:cI X (compareOp op) r)(ho':cI X (compareOp op') r')(ha:PE X a ta)(hb:PE X b tb)(hc:PE X c tc)
  (hm:lastMarks [op,op'] [b,c]=false:=by with_unfolding_all rfl):PE X (.Compare a [op,op'] [b,c] pos) (we r r' ta tb tc):=by
 intro Y s U H Q I h;refine Compare_chain (ax (ha Y s U H _ I h) λv s1 ⟨x,H1,I1,r1,q1⟩=>chain_link (ax (hb Y s1 U H1 _ I1 q1) λu s2 ⟨y,H2,I2,r2,q2⟩=>
  ax (ho Y s2 U H2 x y v u _ I2 r1 r2 q2) λd s3 ⟨z,H3,I3,r3,k,e,q3⟩=>?_)) hm
 subst e;cases r3;refine bi ?_;cases k with
 |false=>exact ite_ff ⟨.bl false,H3,I3,rfl,q3⟩
 |true=>exact ite_tt (chain_last (ax (hc Y s3 U H3 _ I3 q3) λw' s4 ⟨z',H4,I4,r4,q4⟩=>ho' Y s4 U H4 y z' u w' Q I4 r2 r4 q4))
def xa {op':CmpOp}{r':R2}(ho:cI X (compareOp op) r)(ho':cI X (compareOp op') r')(ha:PE X a ta)(hb:PE X b tb)(hc:PE X c tc)
  (hm:lastMarks [op,op'] [b,c]=false:=by with_unfolding_all rfl):PT X (.Compare a [op,op'] [b,c] pos) (B4 (we r r' ta tb tc)):=by
 intro Y s U H Q I h;refine isTrue_chain (ax (ha Y s U H _ I h) λv s1 ⟨x,H1,I1,r1,q1⟩=>test_link (ax (hb Y s1 U H1 _ I1 q1) λu s2 ⟨y,H2,I2,r2,q2⟩=>
  ax (ho Y s2 U H2 x y v u _ I2 r1 r2 q2) λd s3 ⟨z,H3,I3,r3,k,e,q3⟩=>?_)) hm
 subst e;cases r3;refine bi ?_;cases k with
 |false=>
  obtain⟨k',e',q'⟩:=q3;cases e';exact ite_ff ⟨H3,I3,q'⟩
 |true=>
  refine ite_tt (test_last (ax (hc Y s3 U H3 _ I3 q3) λw' s4 ⟨z',H4,I4,r4,q4⟩=>ax (ho' Y s4 U H4 y z' u w' _ I4 r2 r4 q4) λd' s5 ⟨z2,H5,I5,r5,k2,e2,q5⟩=>?_));subst e2;cases r5;exact bi ⟨H5,I5,q5⟩
abbrev BJ (K:W.Frag)(x:V)(H:Hp)(k:Bool):Prop:=
 match x with
 | .non=>k=false
 | .bl b=>k=b
 | .int i=>k=(i != 0)
 | .str y=>y.length<=bn/\k=((y.length:Int) != 0)
 | .byt y=>y.size<=bn/\k=((y.size:Int) != 0)
 | .ref p=>(∃ xs,ba K H p xs/\k= !xs.isEmpty)\/(∃ xs,aX K H p xs/\k= !xs.isEmpty)\/∃ kvs,H p=some (.dK kvs)/\k= !kvs.isEmpty
 |_=>False
def rL {κ:Type}{kvs:List (κ×V)}{vs:List (κ×Value)}(r:KV kvs vs):(!vs.isEmpty)= !kvs.isEmpty:=by
 cases r<;>rfl
def jy {its:List Value}(r:Vals xs its):(!its.toArray.isEmpty)= !xs.isEmpty:=by
 cases r<;>simp
def fH:(bn:Nat)<2 ^ 63:=by rw[sizeLine_eq];decide
def E4:ID X (λx H Q=>∃ k,BJ X.K x H k/\Q k H):=by
 intro Y s U H x v Q I rx h;obtain⟨k,e,q⟩:=h;have hl:=fH;have hs:bn=16777216:=sizeLine_eq;cases x with
 |non=>
  cases rx;have e':k=false:=e;subst e';exact truthy_none ⟨H,I,q⟩
 |bl b=>
  cases rx;have e':k=b:=e;subst e';exact bi ⟨H,I,q⟩
 |int i=>
  obtain⟨t,rfl⟩:=rx;have e':k=(i != 0):=e;subst e';exact PySem.P.truthy_int ⟨H,I,q⟩
 |str y=>
  obtain⟨t,rfl⟩:=rx;obtain⟨hy,e'⟩:y.length<=bn/\k=((y.length:Int) != 0):=e;subst e';exact PySem.P.truthy_str nofun ⟨H,I.tok _,q⟩
 |byt y=>
  obtain⟨t,rfl⟩:=rx;obtain⟨hy,e'⟩:y.size<=bn/\k=((y.size:Int) != 0):=e;subst e';exact W.truthy_bytes nofun ⟨H,I.tok _,q⟩
 |ref p=>
  cases rx;have e':(∃ xs,ba X.K H p xs/\k= !xs.isEmpty)\/(∃ xs,aX X.K H p xs/\k= !xs.isEmpty)\/∃ kvs,H p=some (.dK kvs)/\k= !kvs.isEmpty:=e;rcases e' with⟨xs,hx,e'⟩|⟨xs,hx,e'⟩|⟨kvs,hx,e'⟩
  .subst e';obtain⟨its,r,pl,hz⟩:=I.list hx;have hlen:=r.length;exact wpAny_truthy_list pl.isList (by simp only[ii];omega) ⟨H,I.tok _,by rw[jy r];exact q⟩
  .subst e';obtain⟨its,r,pl,hz⟩:=I.tuple hx;have hlen:=r.length;exact truthy_tuple pl (by simp only[ii];omega) ⟨H,I.tok _,by rw[jy r];exact q⟩
  .subst e';obtain⟨hz,hS,vs,r,m⟩:kvs.length<=bn/\(p ==sysModules)=false/\∃ vs,KV kvs vs/\s.heap.DictOf (ao X.prog X.w) p vs:=I.hok p _ hx;have hlen:kvs.length=vs.length:=Paired.length r;exact wpAny_truthy_dict hS m nofun ⟨H,I.tok _,by rw[rL r];exact q⟩
 |_=>exact(show False from e).elim
def yj (ha:PE X a ta)(he:∀ whole,isTrue a X.env whole=(do let v <-whole;standAt a.pos;holding [v] (truthy v))):
  PT X a (λU H Q=>ta U H λx H'=>∃ k,BJ X.K x H' k/\Q k H'):=by
 intro Y s U H Q I h;exact isTrue_plain (ax (ha Y s U H _ I h) λv s1 ⟨x,H1,I1,r1,q1⟩=>E4 Y s1 U H1 x v Q I1 r1 q1) (he _)
def rM:cI X (binaryOp .Add) (λx y H Q=>∃ i j,x=.str i/\y=.str j/\i.length+j.length<=bn/\Q (.str (i++j)) H):=by
 intro Y s U H x y v u Q I rx ry h;obtain⟨i,j,rfl,rfl,hz,q⟩:=h;obtain⟨t,rfl⟩:=rx;obtain⟨t',rfl⟩:=ry;exact add_str (λt' tk=>⟨.str (i++j),H,I.tok _,⟨_,rfl⟩,q⟩) hz
def vals1 {x:V}(r:Vals [x] us):∃ u,us=[u]/\RelV x u:=by
 cases r with
 |cons r1 r2=>cases r2;exact⟨_,rfl,r1⟩
def vals2 {x y:V}(r:Vals [x,y] us):∃ u w',us=[u,w']/\RelV x u/\RelV y w':=by
 cases r with
 |cons r1 r2=>
  cases r2 with
  |cons r3 r4=>cases r4;exact⟨_,_,rfl,r1,r3⟩
def ur (hc:X.calm=true):cp X (.builtin "max") (λxs H Q=>∃ i j,xs=[.int i,.int j]/\Q (.int (if j>i then j else i)) H):=by
 intro Y s U H xs us Q I r h;obtain⟨i,j,rfl,q⟩:=h;obtain⟨u,w',rfl,⟨t,rfl⟩,⟨t',rfl⟩⟩:=vals2 r;refine max_two_ints (I.ok.hd hc) λh' tk k=>⟨_,H,I.kept k,?_,q⟩
 by_cases hj:j>i
 .rw[if_pos hj,if_pos hj];exact⟨_,rfl⟩
 .rw[if_neg hj,if_neg hj];exact⟨_,rfl⟩
def uw (hc:X.calm=true):cp X (.builtin "min") (λxs H Q=>∃ i j,xs=[.int i,.int j]/\Q (.int (if j<i then j else i)) H):=by
 intro Y s U H xs us Q I r h;obtain⟨i,j,rfl,q⟩:=h;obtain⟨u,w',rfl,⟨t,rfl⟩,⟨t',rfl⟩⟩:=vals2 r;refine min_two_ints (I.ok.hd hc) λh' tk k=>⟨_,H,I.kept k,?_,q⟩
 by_cases hj:j<i
 .rw[if_pos hj,if_pos hj];exact⟨_,rfl⟩
 .rw[if_neg hj,if_neg hj];exact⟨_,rfl⟩
def nu:cp X (.type "str") (λxs H Q=>∃ i,xs=[.int i]/\i.natAbs.log2<1920/\Q (.str (toString i)) H):=by
 intro Y s U H xs us Q I r h;obtain⟨i,rfl,hz,q⟩:=h;obtain⟨u,rfl,t,rfl⟩:=vals1 r;exact PySem.P.str_of_int hz ⟨.str _,H,I.tok _,⟨_,rfl⟩,q⟩
abbrev GH (K:W.Frag)(x:V)(H:Hp)(n:Nat):Prop:=
 match x with
 | .str y=>y.length<=bn/\n=y.length
 | .byt y=>y.size<=bn/\n=y.size
 | .ref p=>(∃ xs,ba K H p xs/\n=xs.length)\/∃ xs,aX K H p xs/\n=xs.length
 |_=>False
def wW:cp X (.builtin "len") (λxs H Q=>∃ x n,xs=[x]/\GH X.K x H n/\Q (.int n) H):=by
 intro Y s U H xs us Q I r h;obtain⟨x,n,rfl,e,q⟩:=h;obtain⟨u,rfl,rx⟩:=vals1 r;have hl:=fH;have hs:bn=16777216:=sizeLine_eq;cases x with
 |str y=>
  obtain⟨t,rfl⟩:=rx;obtain⟨hy,e'⟩:y.length<=bn/\n=y.length:=e;subst e';exact len_str nofun ⟨.int _,H,I.tok _,⟨_,rfl⟩,q⟩
 |byt y=>
  obtain⟨t,rfl⟩:=rx;obtain⟨hy,e'⟩:y.size<=bn/\n=y.size:=e;subst e';exact W.len_bytes nofun ⟨.int _,H,I.tok _,⟨_,rfl⟩,q⟩
 |ref p=>
  cases rx;have e':(∃ xs,ba X.K H p xs/\n=xs.length)\/∃ xs,aX X.K H p xs/\n=xs.length:=e;rcases e' with⟨xs,hx,e'⟩|⟨xs,hx,e'⟩
  .subst e';obtain⟨its,r',pl,hz⟩:=I.list hx;have hlen:=r'.length;exact Calls.call_len_list pl.isList (by simp only[ii];omega) ⟨.int xs.length,H,I.tok _,⟨_,by simp only[ii];rw[hlen]⟩,q⟩
  .subst e';obtain⟨its,r',pl,hz⟩:=I.tuple hx;have hlen:=r'.length;exact len_tuple pl (by simp only[ii];omega) ⟨.int xs.length,H,I.tok _,⟨_,by simp only[ii];rw[hlen]⟩,q⟩
 |_=>exact(show False from e).elim
end
structure rm (h:Heap) (x dx C:Addr) (mA:K3):Prop where
 obj:h.get? x=some (W.instObj C dx)
 ns:h.Ns1 dx mA
 ne:dx≠x
variable {mA:K3}
def g7 {dx:Addr}(n:h.Ns1 dx mA):∃ od,h.get? dx=some od/\∀ name,W.lookIn name od=some (mA name):=by
 obtain⟨o,es,ep,ho,hd,hk,_,hm⟩:=n;refine⟨o,ho,λname=>?_⟩;have e:=hm name;unfold nsFind findBy at e;rw[<-Array.find?_toList]at e;unfold W.lookIn;rw[hd];dsimp only
 split
 .rename_i y q;rw[q]at e;exact congrArg some e
 .rename_i q;rw[q]at e;have a:es.toList.any (·.refKey)=false:=by
   rw[any_eq_false];intro y hy;obtain⟨z,t,hkey⟩:=hk y (Array.mem_toList_iff.mp hy);simp[DictEntry.refKey,hkey]
  have a':¬ es.toList.any (·.refKey)=true:=by rw[a];exact Bool.false_ne_true
  rw[if_neg a'];exact congrArg some e
variable {C:Addr}
def rm.look {x dx:Addr}(I:rm h x dx C mA):∃ od,W.InstAt h x (W.instObj C dx) C (some od)/\∀ name,W.lookIn name od=some (mA name):=
 let⟨od,ho,hl⟩:=g7 I.ns
 ⟨od,⟨I.obj,rfl,rfl,ho⟩,hl⟩
variable {pl:Sem Bool}{kw:List (Str×Value)}
section
variable {prog:Program}{w:World}{A:Around}{E:K1}{s:Shared}{K:W.Frag}{x dx C f:Addr}{mA:K3}{name:Str}{v:Value}
def get_map {expr:Bool}(X:K.In s.heap)(I:rm s.heap x dx C mA)(hg:W.plainGet K C name=true)(hh:W.hasDictIn K C=true)
  (ha:W.findIn K (.ref C) name=some none) (hv:mA name=some v) (hv':W.handedIn v=true) (h:Q v { s with toks:=s.toks+1 }):
  wpAny (model prog w) A (getAttr (.ref x) name expr) Q E s:=by
 obtain⟨od,J,hl⟩:=I.look;exact W.get_value X J (W.plainGet_of hg).1 (W.findObj_own hh ha rfl (by rw[hl,hv])) hv' h
def xj {Q:Value×List Value->Shared->Prop}(X:K.In s.heap)(I:rm s.heap x dx C mA)(hg:W.plainGet K C name=true)
  (hf:W.findIn K (.ref C) name=some (some (.ref f))) (ht:W.isFn K (.ref f)=true) (hv:mA name=none) (h:Q (.ref f,[.ref x]) s):
  wpAny (model prog w) A (getMethod (.ref x) name pl) Q E s:=by
 obtain⟨od,J,hl⟩:=I.look;exact W.method_fn X J (W.plainGet_of hg).1 (W.plainGet_of hg).2 hf (beq_iff_eq.mp ht) (by show(W.lookIn name od).map (·.isSome)=some false;rw[hl,hv];rfl) h
def zW {ns:List Str}{Q:KZ}(X:K.In s.heap)(I:rm s.heap x dx C mA)
  (hs:W.findIn K (.ref C) "__setattr__"=some (some (.builtin "object.__setattr__"))) (hp:W.plainOver K C=true) (ht:W.takerIn K C name=some none) (hh:W.hasDictIn K C=true)
  (hw:PySem.Within mA ns) (hsz:ns.length<=bn)
  (h:∀ h',rm h' x dx C (λy=>if y=name then some v else mA y)->Heap.SameBut dx s.heap h'->Q () { s with heap:=h',toks:=s.toks+2 }):
  wpAny (model prog w) A (setAttr (.ref x) name v) Q E s:=by
 obtain⟨od,J,hl⟩:=I.look;refine W.set_plain X J hs (W.osa_open (s:={ s with toks:=s.toks+1 }) (r:=none) X J hp ht λb=>?_);obtain⟨cd,hc,hd'⟩:=W.any_some hh;have hx:s.heap.get? x=some ⟨.ref C,some dx,.plain,#[]⟩:=I.obj;refine ad (am (ad (ad (wpAny_loadPart hx (ad (W.Looks.here (s:={ s with toks:=s.toks+1 }) (W.looks_clsIn X hc) ?_))))));rw[hd'];refine am (a:=some dx) (ad (am (ad ?_)));refine wpAny_nsSet1 (s:={ s with toks:=s.toks+1 }) I.ns λh' hn2 hs2=>?_
 obtain⟨oD,esD,epD,hoD,hdD,hcD⟩:=hn2.count (PySem.Within.cons name v hw);refine ad (wpAny_lookBehind hoD (by rw[hdD];exact pastItsLine_dict (Nat.le_trans hcD (by rw[length_cons];omega))) ?_);exact am (h _ ⟨(hs2.2 _ (Ne.symm I.ne)).trans I.obj,hn2,I.ne⟩ hs2)
def w8 {R:Result->Shared->Prop}{vs:List Value}(X:K.In s.heap)(hm:W.makesIn K C=true)
  (hi:W.findIn K (.ref C) "__init__"=some (some (.ref f))) (hf:W.typeIn K (.ref f)=some (.type "function"))
  (h:codeAny (model prog w) (A.under (.builtin "type.__call__" ⟨.ref C::vs,kw⟩)) (.call (.ref f) ⟨.ref (s.heap.objs.size+1)::vs,kw⟩) (W.InitBack (s.heap.objs.size+1) R)
   { s with heap:=(s.heap.push W.emptyDict).push (W.instObj C s.heap.objs.size) }):
  codeAny (model prog w) A (.call (.ref C) ⟨vs,kw⟩) R s:=by
 obtain⟨hh,g,d,t,os⟩:=s;exact W.make_core (W.makes_of X hm) (W.looks_findIn X hi) (λself=>W.bind_fn X self hf) (.inl rfl) h
end
abbrev cj (f:Str)(v:V):List (Str×V)->List (Str×V)
 | []=>[(f,v)]
 |(g,x)::r=>if g=f then(g,v)::r else(g,x)::cj f v r
def dF (f g:Str)(v:V):∀ fs:List (Str×V),(cj f v fs).lookup g=if g=f then some v else fs.lookup g
 | []=>by
  show List.lookup g [(f,v)]=_
  by_cases h:g=f
  .have hb:(g ==f)=true:=beq_iff_eq.mpr h;simp only[List.lookup,hb,if_pos h]
  .have hb:(g ==f)=false:=beq_eq_false_iff_ne.mpr h;simp only[List.lookup,hb,if_neg h]
 |(k,x)::r=>by
  have ih:=dF f g v r;rw[show cj f v ((k,x)::r)=(if k=f then(k,v)::r else(k,x)::cj f v r) from rfl]
  by_cases hk:k=f
  .rw[if_pos hk]
   by_cases h:g=k
   .have hb:(g ==k)=true:=beq_iff_eq.mpr h;simp only[List.lookup,hb,if_pos (h.trans hk)]
   .have hb:(g ==k)=false:=beq_eq_false_iff_ne.mpr h;simp only[List.lookup,hb,if_neg (λe:g=f=>h (e.trans hk.symm))]
  .rw[if_neg hk]
   by_cases h:g=k
   .have hb:(g ==k)=true:=beq_iff_eq.mpr h;simp only[List.lookup,hb,if_neg (λe:g=f=>hk (h.symm.trans e))]
   .have hb:(g ==k)=false:=beq_eq_false_iff_ne.mpr h;simp only[List.lookup,hb];exact ih
def cK (f:Str)(v:V):∀ fs:List (Str×V),f ∈ (cj f v fs).map (·.1)/\∀ g,g ∈ fs.map (·.1)->g ∈ (cj f v fs).map (·.1)
 | []=>⟨by simp[cj],λg h=>by simp at h⟩
 |(k,x)::r=>by
  obtain⟨i1,i2⟩:=cK f v r;rw[show cj f v ((k,x)::r)=(if k=f then(k,v)::r else(k,x)::cj f v r) from rfl]
  by_cases hk:k=f
  .rw[if_pos hk];subst hk;exact⟨by simp,λg h=>by simpa using h⟩
  .rw[if_neg hk];refine⟨?_,λg h=>?_⟩
   .rw[map_cons];exact dL _ i1
   .rw[map_cons]at h⊢;rcases lw.mp h with e|e
    .exact lw.mpr (.inl e)
    .exact dL _ (i2 g e)
def ef (f:Str)(v:V):∀ fs:List (Str×V),(cj f v fs).length<=fs.length+1
 | []=>by simp[cj]
 |(k,x)::r=>by
  have ih:=ef f v r;rw[show cj f v ((k,x)::r)=(if k=f then(k,v)::r else(k,x)::cj f v r) from rfl]
  by_cases hk:k=f
  .rw[if_pos hk,length_cons,length_cons];omega
  .rw[if_neg hk,length_cons,length_cons];omega
def cG.some_of {o:Option Value}(r:cG (some v) o):∃ u,o=some u/\RelV v u:=by
 cases o with
 |none=>exact(show False from r).elim
 |some u=>exact⟨u,rfl,r⟩
def cG.none_of {o:Option Value}(r:cG none o):o=none:=by
 cases o with
 |none=>rfl
 |some u=>exact(show False from r).elim
def kH (r:RelV v u):W.handedIn u=true:=by
 cases v with
 |non=>cases(show u=Value.none from r);rfl
 |bl b=>cases(show u=Value.bool b from r);rfl
 |int i=>obtain⟨t,e⟩:=(show ∃ t,u=Value.int i t from r);cases e;rfl
 |str x=>obtain⟨t,e⟩:=(show ∃ t,u=Value.str x t from r);cases e;rfl
 |byt b=>obtain⟨t,e⟩:=(show ∃ t,u=Value.bytes b t from r);cases e;rfl
 |flt b=>obtain⟨t,e⟩:=(show ∃ t,u=Value.float b t from r);cases e;rfl
 |ref a=>cases(show u=Value.ref a from r);rfl
 |ty n=>cases(show u=Value.type n from r);rfl
section
variable {P:Program}{w:World}{H H':Hp}{h h':Heap}{a C dx:Addr}{fs fs':List (Str×V)}
def eB (hok:fw P w H h)(e:H a=some (.ins C dx fs)):∃ mA,rm h a dx C mA/\(∀ f,cG (fs.lookup f) (mA f))/\PySem.Within mA (fs.map (·.1))/\fs.length<=1000/\H dx=some (.own a):=by
 obtain⟨d,z,ne,ob,mA,n,r,q⟩:=(show au P w H h a (.ins C dx fs) from hok a _ e);exact⟨mA,⟨ob,n,ne⟩,r,q,z,d⟩
end
structure Bo (K:W.Frag) (C:Addr):Prop where
 pg:W.plainGet K C Str.empty=true
 hd:W.hasDictIn K C=true
 po:W.plainOver K C=true
 sa:W.findIn K (.ref C) "__setattr__"=some (some (.builtin "object.__setattr__"))
def Bo.get (c:Bo K C)(f:Str):W.plainGet K C f=true:=c.pg
abbrev dH (K:W.Frag)(C:Addr)(f:Str):Prop:=W.findIn K (.ref C) f=some none
def dH.F7 {f:Str}(n:dH K C f):W.takerIn K C f=some none:=by
 unfold W.takerIn;rw[show W.findIn K (.ref C) f=some none from n]
 rfl
structure Meth (K:W.Frag) (C:Addr) (m:Str) (f:Addr):Prop where
 at_:W.findIn K (.ref C) m=some (some (.ref f))
 fn:W.isFn K (.ref f)=true
 kp:W.keepIn K (.ref f)=true
section
variable {X:Cx}{Y:K2}{U:St}{H:Hp}{s:Shared}{a C dx:Addr}{fs:List (Str×V)}{f:Str}{v:V}{A:Around}{E:K1}
def qA {b:Bool}(I:Inv X Y U H s)(e:H a=some (.ins C dx fs))(c:Bo X.K C)(n:dH X.K C f)(l:fs.lookup f=some v)
  (h:∀ u s',Inv X Y U H s'->RelV v u->Q u s'):wpAny (model X.prog X.w) A (getAttr (.ref a) f b) Q E s:=by
 obtain⟨mA,O,r,_,_,_⟩:=eB I.hok e;obtain⟨u,hu,ru⟩:=cG.some_of (v:=v) (o:=mA f) (by rw[<-l];exact r f);exact get_map I.bF O (c.get f) c.hd n hu (kH ru) (h u _ (I.tok _) ru)
def qv {m:Str}{g:Addr}{Q:Value×List Value->Shared->Prop}(I:Inv X Y U H s)(e:H a=some (.ins C dx fs))(c:Bo X.K C)(k:Meth X.K C m g)(l:fs.lookup m=none)
  (h:Q (.ref g,[.ref a]) s):wpAny (model X.prog X.w) A (getMethod (.ref a) m pl) Q E s:=by
 obtain⟨mA,O,r,_,_,_⟩:=eB I.hok e;have hn:mA m=none:=cG.none_of (by rw[<-l];exact r m);exact xj I.bF O (c.get m) k.at_ k.fn hn h
def rg {y:V}{Q:KZ}(I:Inv X Y U H s)(e:H a=some (.ins C dx fs))(c:Bo X.K C)(n:dH X.K C f)(hl:fs.length<1000)(ry:RelV y u)
  (h:∀ s',Inv X Y U (upd H a (.ins C dx (cj f y fs))) s'->Q () s'):wpAny (model X.prog X.w) A (setAttr (.ref a) f u) Q E s:=by
 obtain⟨mA,O,r,wi,_,ho⟩:=eB I.hok e;have hz:(fs.map (·.1)).length<=bn:=by rw[ci,sizeLine_eq];omega
 refine zW I.bF O c.sa c.po n.F7 c.hd wi hz λh' O' sb=>h _ ?_
 have hd:∃ o,h'.get? dx=some o:=let⟨o,_,_,e',_⟩:=O'.ns;⟨o,e'⟩;refine I.write (x:=a) (e:=dx) (by rw[e];exact True.intro) (.inr ho) (λb q hb z=>(sb.2 b hb).trans z) hd ?_;refine⟨by rw[af O.ne];exact ho,?_,O.ne,O'.obj,_,O'.ns,λg=>?_,λg hg=>?_⟩
 .have:=ef f y fs;omega
 .show cG ((cj f y fs).lookup g) (if g=f then some u else mA g);rw[dF]
  by_cases q:g=f
  .rw[if_pos q,if_pos q];exact ry
  .rw[if_neg q,if_neg q];exact r g
 .by_cases q:g=f
  .rw[q];exact(cK f y fs).1
  .refine(cK f y fs).2 g (wi g λz=>hg ?_);show(if g=f then some u else mA g)=none;rw[if_neg q];exact z
def Inv.made (I:Inv X Y U H s):Inv X Y U (upd (upd H s.heap.objs.size (.own (s.heap.objs.size+1))) (s.heap.objs.size+1) (.ins C s.heap.objs.size []))
  { s with heap:=(s.heap.push W.emptyDict).push (W.instObj C s.heap.objs.size) }:=by
 have e1:(s.heap.push W.emptyDict).get? s.heap.objs.size=some W.emptyDict:=v0 s.heap rfl;have e2:((s.heap.push W.emptyDict).push (W.instObj C s.heap.objs.size)).get? (s.heap.objs.size+1)=some (W.instObj C s.heap.objs.size):=by
  have:=v0 (s.heap.push W.emptyDict) (o:=W.instObj C s.heap.objs.size) rfl
  rwa [Heap.size_push]at this
 have e3:(s.heap.push W.emptyDict).Ns s.heap.objs.size (λ_=>none):=⟨W.emptyDict,#[],_,e1,rfl,(λe he=>absurd he (by simp)),λ_=>rfl⟩;have I1:=I.laid (a:=s.heap.objs.size) (o:=.own (s.heap.objs.size+1)) (h':=s.heap.push W.emptyDict) (t':=s.toks) (λb u q=>ul _ q) (re _) ⟨_,e1⟩;refine I1.laid (a:=s.heap.objs.size+1) (o:=.ins C s.heap.objs.size []) (t':=s.toks) (λb u q=>ul _ q) (Nat.le_of_eq (Heap.size_push _ _)) ?_;have ne:s.heap.objs.size≠s.heap.objs.size+1:=pi (Nat.lt_succ_self _);refine⟨by rw[af ne,av],Nat.zero_le _,ne,e2,λ_=>none,(Heap.Ns1.of_empty e3).at λo q=>ul _ q,λ_=>True.intro,λy hy=>absurd rfl hy⟩
def zi {prog:Program}{env:Env}(hb:attributeBase e f env (eval e env)=eval e env)
  (h:wpAny (model prog w) A (eval e env) (λo s₁=>wpAny (model prog w) A (getAttr o f true) Q E s₁) E s):wpAny (model prog w) A (eval (.Attribute e f pos) env) Q E s:=
 Attribute_any_ h (by rw[arm_eval_Attribute,hb])
end
section
variable {X:Cx}{o e value:Expr}{f:Str}{pos pos' tpos:Pos}{ta tv:TE}
end
section
variable {X:Cx}{Y:K2}{U:St}{H:Hp}{s:Shared}{A:Around}{E:K1}{Q:K1}{c:Value}{b:Bool}
inductive gu (K:W.Frag) (H:Hp):V->Value->Prop where
 |non:gu K H .non (.type "NoneType")
 |bl (x:Bool):gu K H (.bl x) (.type "bool")
 |int (i:Int):gu K H (.int i) (.type "int")
 |str (x:Str):gu K H (.str x) (.type "str")
 |flt (x:UInt64):gu K H (.flt x) (.type "float")
 |lst {a:Addr}{xs:List V}(e:H a=some (.lst xs)):gu K H (.ref a) (.type "list")
 |iJ {a:Addr}{o:Obj}{xs:List V}(e:H a=some (.iJ o (.lst xs))):gu K H (.ref a) (.type "list")
 |tup {a:Addr}{xs:List V}(e:H a=some (.tup xs)):gu K H (.ref a) (.type "tuple")
 |dK {a:Addr}{kvs:List (Key×V)}(e:Rd H a (.dK kvs)):gu K H (.ref a) (.type "dict")
 |dT {a:Addr}{kvs:List (List Key×V)}(e:H a=some (.dT kvs)):gu K H (.ref a) (.type "dict")
 |ins {a C dx:Addr}{fs:List (Str×V)}(e:H a=some (.ins C dx fs)) (cl:Bo K C) (ha:W.findIn K (.ref C) "__class__"=some (some (.builtin "object.__class__")))
   (hn:W.specialIn K (.builtin "object.__class__") "__get__"=some (some (.builtin "getset_descriptor.__get__"))) (htk:W.takesIn K (.builtin "object.__class__")=some true)
   (hm:W.mroIn K C (.type "object")=some true):gu K H (.ref a) (.ref C)
def g8 {x:V}{t:Value}(I:Inv X Y U H s)(rx:RelV x u)(ty:gu X.K H x t)(e:W.kitOne X.K t c=some b)(h:∀ tk,Q (.bool b) { s with toks:=tk }):
  wpAny (model X.prog X.w) A (call (.builtin "isinstance") [u,c]) Q E s:=by
 cases ty with
 |non=>cases(show u=Value.none from rx);exact W.kia_one W.kitx_none I.bF True.intro e (λz=>nomatch z) h
 |bl y=>cases(show u=Value.bool y from rx);exact W.kia_one W.kitx_bool I.bF True.intro e (λz=>nomatch z) h
 |int i=>obtain⟨t,q⟩:=(show ∃ t,u=Value.int i t from rx);cases q;exact W.kia_one W.kitx_int I.bF True.intro e (λz=>nomatch z) h
 |str y=>obtain⟨t,q⟩:=(show ∃ t,u=Value.str y t from rx);cases q;exact W.kia_one W.kitx_str I.bF True.intro e (λz=>nomatch z) h
 |flt y=>obtain⟨t,q⟩:=(show ∃ t,u=Value.float y t from rx);cases q;exact W.kia_one W.kitx_float I.bF True.intro e (λz=>nomatch z) h
 | @lst a xs ea=>
  cases(show u=Value.ref a from rx);obtain⟨_,_,n,_,h1⟩:=(show au X.prog X.w H s.heap a (.lst xs) from I.hok a _ ea);exact W.kia_one W.kitx_list I.bF ⟨_,h1,rfl⟩ e (λz=>nomatch z) h
 | @iJ a ob xs ea=>
  cases(show u=Value.ref a from rx);obtain⟨_,_,_,n,_,h1⟩:=(show au X.prog X.w H s.heap a (.iJ ob (.lst xs)) from I.hok a _ ea);exact W.kia_one W.kitx_list I.bF ⟨_,h1,rfl⟩ e (λz=>nomatch z) h
 | @tup a xs ea=>
  cases(show u=Value.ref a from rx);obtain⟨_,_,_,p⟩:=(show au X.prog X.w H s.heap a (.tup xs) from I.hok a _ ea);obtain⟨o,h1,h2,_⟩:=p;exact W.kia_one W.kitx_tuple I.bF ⟨o,h1,h2⟩ e (λz=>nomatch z) h
 | @dK a kvs ea=>
  cases(show u=Value.ref a from rx);obtain⟨_,_,vs,_,p⟩:=(show au X.prog X.w H s.heap a (.dK kvs) from ea.ok I.hok);obtain⟨o,es,ep,h1,h2,_⟩:=p;exact W.kia_one W.kitx_dict I.bF ⟨o,h1,h2.1⟩ e (λz=>nomatch z) h
 | @dT a kvs ea=>
  cases(show u=Value.ref a from rx);obtain⟨_,_,xs,_,o,es,ep,h1,h2,_⟩:=(show au X.prog X.w H s.heap a (.dT kvs) from I.hok a _ ea);exact W.kia_one W.kitx_dict I.bF ⟨o,h1,h2.1⟩ e (λz=>nomatch z) h
 | @ins a C dx fs ea cl ha hn htk hm=>
  cases(show u=Value.ref a from rx);obtain⟨mA,O,_⟩:=eB I.hok ea;obtain⟨od,J,_⟩:=O.look;exact W.kia_one (W.kitx_own (cl.get _) cl.hd ha hn htk hm) I.bF J e (λz=>nomatch z) h
end
abbrev vk (c:Bool)(h:Option Value)(H:Hp):Prop:=match c with
 |true=>h=none
 |false=>∃ e C dx fs,h=some (.ref e)/\H e=some (.exc C dx fs false)
structure bB (k:Nat) (A:Around):Prop where
 dp:A.depth+3*k+5<recursionLimit
 un:A.units+16*k+200<cLine
def bB.mono {j:Nat}(r:bB k A)(h:j<=k):bB j A:=⟨by have:=r.dp;omega,by have:=r.un;omega⟩
def bB.deeper (r:bB (k+1) A)(env:Env):bB k (A.deeper env):=
 ⟨by have:=r.dp;show A.depth+1+3*k+5<_;omega,by have:=r.un;show A.units+3+16*k+200<_;omega⟩
def qp:(A.under (.builtin "type.__call__" ⟨.ref C::us,kw⟩)).depth=A.depth+1:=by
 first|rfl|simp[Around.under,Code.weight,Code.isCreation,Code.isGuard,Code.isCaller,Code.frames,Code.isFrame,guardIds]
def rJ:(A.under (.builtin "type.__call__" ⟨.ref C::us,kw⟩)).units=A.units+1:=by
 first|rfl|simp[Around.under,Code.cUnits,Code.frames,Code.isFrame]
def bB.make (r:bB (k+1) A)(C:Addr)(us:List Value)(kw:List (Str×Value)):bB k (A.under (.builtin "type.__call__" ⟨.ref C::us,kw⟩)):=
 ⟨by have:=r.dp;rw[qp];omega,by have:=r.un;rw[rJ];omega⟩
def bB.depth (r:bB k A):A.depth<recursionLimit:=by have:=r.dp;omega
abbrev Br:TA:=λ_ H Q=>Q [] H
abbrev BO (ta:TE)(tr:TA):TA:=λU H Q=>ta U H λx H1=>tr U H1 λxs H2=>Q (x::xs) H2
section
variable {X:Cx}{e:Expr}{es:List Expr}{te:TE}{t:TA}{pos:Pos}
def cy:PA X [] Br:=λ_ _ _ _ H Q I h=>Calls.spliced_nil ⟨[],H,I,.nil,h⟩
def zS (ha:PE X e te)(hr:PA X es t)(hs:bm (e::es) X.env=(false,eval e X.env)::bm es X.env:=by rfl):PA X (e::es) (BO te t):=by
 intro pos Y s U H Q I h;rw[hs];show wpAny _ _ (spliced ((false,eval e X.env)::backTo pos (bm es X.env))) _ _ s;refine Calls.spliced_cons (ax (ha Y s U H _ I h) λu s1 ⟨x,H1,I1,r1,q1⟩=>?_);exact ax (hr pos Y s1 U H1 _ I1 q1) λus s2 ⟨xs,H2,I2,r2,q2⟩=>⟨x::xs,H2,I2,.cons r1 r2,q2⟩
abbrev Je (t:TA):TE:=λU H Q=>t U H λxs H1=>xs.length<=bn/\∀ p,H1 p=none->Q (.ref p) (upd H1 p (.tup xs))
abbrev Jv (t:TA):TE:=λU H Q=>t U H λxs H1=>xs.length<=bn/\∀ p,H1 p=none->Q (.ref p) (upd H1 p (.lst xs))
def xq {x1} (h:PA X es t):PE X (.Tuple es x1 pos) (Je t):=by
 intro Y s U H Q I hq;refine wpAny_Tuple_spliced (ax (h pos Y s U H _ I hq) λus s1 ⟨xs,H1,I1,r,z,q⟩=>⟨by rw[<-r.length];exact z,?_⟩);have hf:H1 s1.heap.objs.size=none:=I1.hok.fresh (re _);refine⟨.ref s1.heap.objs.size,upd H1 s1.heap.objs.size (.tup xs),I1.laid (t':=s1.toks) (λb u e=>ul _ e) (re _) ?_,rfl,q _ hf⟩;exact⟨z,us,r,⟨_,v0 _ rfl,rfl,_,rfl⟩⟩
def Dc (h:PA X es t):PE X (.List es pos) (Jv t):=by
 intro Y s U H Q I hq;refine wpAny_List_spliced (ax (h pos Y s U H _ I hq) λus s1 ⟨xs,H1,I1,r,z,q⟩=>⟨by rw[<-r.length];exact z,?_⟩);have hf:H1 s1.heap.objs.size=none:=I1.hok.fresh (re _);refine⟨.ref s1.heap.objs.size,upd H1 s1.heap.objs.size (.lst xs),I1.laid (t':=s1.toks) (λb u e=>ul _ e) (re _) ?_,rfl,q _ hf⟩;exact⟨z,us,0,r,v0 _ rfl⟩
end
@[reducible]def Sp:=List V->Hp->VK->XK->Prop
@[reducible]def tV:=List Env->Hp->Shared->XK->Value->Shared->Prop
structure qS (P:Program) (w:World) (K:W.Frag) (mg:K3) (base:Heap) (A:Around) (outer:List Env) (s:Shared) (H:Hp):Prop where
 frames:A.frames=some outer
 mod:Mod K mg base
 bs:∀ b o,base.get? b=some o->s.heap.get? b=some o/\H b=none
 bsz:base.objs.size<=s.heap.objs.size
 g6:s.heap.FunFrames base outer
 frf:∀ b ∈ nD outer,H b=none
 hok:fw P w H s.heap
 bare:AllBare s.gens
abbrev CE (outer:List Env)(P:Program)(w:World)(H:Hp)(s:Shared)(Q:VK)(u:Value)(s':Shared):Prop:=
 ∃ v H',s'.os=s.os/\AllBare s'.gens/\Un (nD outer) [] H H' s.heap s'.heap/\fw P w H' s'.heap/\RelV v u/\Q v H'
abbrev CR (CX:tV)(outer:List Env)(P:Program)(w:World)(H:Hp)(s:Shared)(Q:VK)(E:XK)(r:Result)(s':Shared):Prop:=
 match r with
 | .ok (.ret u)=>CE outer P w H s Q u s'
 | .ok _=>False
 | .error e=>CX outer H s E e s'
structure cz (c:Bool) (P:Program) (w:World) (K:W.Frag) (mg:K3) (base:Heap) (CX:tV) (k:Nat) (f:Addr) (fd:FuncData) (ps:List Str) (sp:Sp):Prop where
 len:∀ vs H Q E,sp vs H Q E->vs.length=ps.length
 run:∀ (A:Around) (outer:List Env) (s:Shared) (H:Hp) (args:Args) (us:List Value) (vs:List V) (Q:VK) (E:XK),bB k A->vk c A.handled H->qS P w K mg base A outer s H->BindsTo s fd args (ps.zip us)->Vals vs us->sp vs H Q E->
  codeAny (model P w) A (.call (.ref f) args) (CR CX outer P w H s Q E) s
variable {mg:K3}{base:Heap}{CX:tV}{fd:FuncData}{ps:List Str}
def cz.imp {c:Bool}{f:Addr}{sp sp':Sp}(F:cz c P w K mg base CX k f fd ps sp)
  (h:∀ vs H Q E,sp' vs H Q E->sp vs H Q E):cz c P w K mg base CX k f fd ps sp':=
 ⟨λvs H Q E q=>F.len vs H Q E (h _ _ _ _ q),λA outer s H args us vs Q E hr hh he hb hv hs=>F.run A outer s H args us vs Q E hr hh he hb hv (h _ _ _ _ hs)⟩
variable {outer:List Env}
def qS.make (e:qS P w K mg base A outer s H)(C:Addr)(us:List Value)(kw:List (Str×Value)):
  qS P w K mg base (A.under (.builtin "type.__call__" ⟨.ref C::us,kw⟩)) outer s H:=⟨by first|exact e.frames|(simpa[Around.under,Code.envs,Code.isFrame,pushEnvs] using e.frames),e.mod,e.bs,e.bsz,e.g6,e.frf,e.hok,e.bare⟩
section
variable {X:Cx}{Y:K2}{U:St}{H:Hp}{s s':Shared}
def Inv.gZ (I:Inv X Y U H s):qS X.prog X.w X.K X.mg X.base X.A X.stack s H:=
 ⟨I.ok.frames,I.ok.mod,I.bs,Nat.le_trans I.ok.bsz I.sz,I.stack,I.l9,I.hok,I.bare⟩
def Inv.after {Q:VK}(I:Inv X Y U H s)(h:CE X.stack X.prog X.w H s Q u s'):EP X Y U Q u s':=by
 obtain⟨v,H',os,bare,un,hok,r,q⟩:=h;obtain⟨hh,g,d,t,os'⟩:=s';obtain rfl:os'=s.os:=os;exact⟨v,H',I.call (h':=hh) (g':=g) (d':=d) (t':=t) (ch:=[]) un hok bare (λb z=>absurd z (by simp)),r,q⟩
end
abbrev BP (sp:Sp)(dvs:List V)(E:St->XK)(t:TA):TE:=λU H Q=>t U H λvs H1=>sp (vs++dvs) H1 Q (E U)
abbrev CN (C:Addr)(sp:Sp)(dvs:List V)(E:St->XK)(t:TA):TE:=λU H Q=>t U H λvs H1=>∀ x dx,H1 x=none->H1 dx=none->dx≠x->
 sp (.ref x::(vs++dvs)) (upd (upd H1 dx (.own x)) x (.ins C dx [])) (λv H2=>v=.non/\Q (.ref x) H2) (E U)
abbrev Binds (K:W.Frag)(fd:FuncData)(ps:List Str)(ds:List Value):Prop:=
 ∀ (s:Shared) (us:List Value),K.In s.heap->(us++ds).length=ps.length->BindsTo s fd ⟨us,[]⟩ (ps.zip (us++ds))
def Binds.all (h:∀ us:List Value,us.length=ps.length->bindArgs fd ⟨us,[]⟩=pure (ps.zip us)):Binds K fd ps []:=λs us _ hl=>by
 rw[append_nil]at hl⊢;exact .of_eq (h us hl)
abbrev Passes (CX:tV)(X:Cx)(E:St->XK):Prop:=∀ (Y:K2) (U:St) (H:Hp) (s:Shared) (e:Value) (s':Shared),Inv X Y U H s->CX X.stack H s (E U) e s'->X.xe e s'
variable {vs:List V}
section
variable {c:Bool}{X:Cx}{CX:tV}{k:Nat}{f C:Addr}{fd:FuncData}{ps:List Str}{sp:Sp}{dvs:List V}{ds:List Value}{E:St->XK}{x m:Str}{p pos apos:Pos}{e o:Expr}{es:List Expr}{ta:TE}{t:TA}
def lK {Q:VK}(F:cz c X.prog X.w X.K X.mg X.base CX k f fd ps sp)(hh:∀ {Y:K2}{U:St}{H:Hp}{s:Shared}{vs:List V}{Q:VK}{E:XK},Inv X Y U H s->sp vs H Q E->vk c X.A.handled H) (hr:bB k X.A) (hb:Binds X.K fd ps ds) (hd:Vals dvs ds) (hx:Passes CX X E)
  (I:Inv X Y U H s) (r:Vals vs us) (h:sp (vs++dvs) H Q (E U)):wpAny (model X.prog X.w) X.A (call (.ref f) us) (EP X Y U Q) X.xe s:=by
 have r2:Vals (vs++dvs) (us++ds):=r.append hd;have hl:(us++ds).length=ps.length:=by rw[<-r2.length];exact F.len _ _ _ _ h
 refine wpAny_call (codeAny_mono (F.run X.A X.stack s H ⟨us,[]⟩ (us++ds) (vs++dvs) Q (E U) hr (hh I h) I.gZ (hb s us I.bF hl) r2 h) λr s' hq=>?_);cases r with
 |error e=>exact hx Y U H s e s' I hq
 |ok fl=>
  cases fl with
  |ret u=>exact I.after hq
  |next=>exact False.elim hq
  |brk=>exact False.elim hq
  |cont=>exact False.elim hq
def AJ (F:cz c X.prog X.w X.K X.mg X.base CX k f fd ps sp)(hh:∀ {Y:K2}{U:St}{H:Hp}{s:Shared}{vs:List V}{Q:VK}{E:XK},Inv X Y U H s->sp vs H Q E->vk c X.A.handled H) (hr:bB k X.A) (hg:Gl X x) (hm:X.mg x=some (.ref f)) (hk:W.keepIn X.K (.ref f)=true) (hb:Binds X.K fd ps ds) (hd:Vals dvs ds) (hx:Passes CX X E)
  (ha:PA X (e::es) t) (hdb:(x ==("__debug__":Str))=false:=by decide) (he:bm (e::es) X.env=(false,eval e X.env)::bm es X.env:=by rfl) (hpl:(backTo pos (bm es X.env)).any (·.1)=false:=by rfl):
  PE X (.Call (.Name x p) (e::es) [] pos) (BP sp dvs E t):=by
 intro Y s U H Q I h;refine bv (bg I hg hm ?_ hdb);refine W.callWith_K (h₀:=X.base) I.ok.mod.kin hk (ax (ha pos Y s U H _ I h) λus s1 ⟨vs,H1,I1,r,q⟩=>⟨I1.bF,?_⟩) he hpl;exact lK F hh hr hb hd hx I1 r q
def yD (F:cz c X.prog X.w X.K X.mg X.base CX k f fd ps sp)(hh:∀ {Y:K2}{U:St}{H:Hp}{s:Shared}{vs:List V}{Q:VK}{E:XK},Inv X Y U H s->sp vs H Q E->vk c X.A.handled H) (hr:bB k X.A) (hg:Gl X x) (hm:X.mg x=some (.ref f)) (hk:W.keepIn X.K (.ref f)=true) (hb:Binds X.K fd ps ds) (hd:Vals dvs ds) (hx:Passes CX X E)
  (hdb:(x ==("__debug__":Str))=false:=by decide):PE X (.Call (.Name x p) [] [] pos) (BP sp dvs E Br):=by
 intro Y s U H Q I h;refine bv (bg I hg hm ?_ hdb);exact W.callWith_K0 I.bF hk (lK (us:=[]) F hh hr hb hd hx I .nil h)
structure Mk (K:W.Frag) (C f:Addr):Prop where
 makes:W.makesIn K C=true
 init:W.findIn K (.ref C) "__init__"=some (some (.ref f))
 fn:W.isFn K (.ref f)=true
 kp:W.keepIn K (.ref C)=true
def og {Q:VK}(M:Mk X.K C f)(F:cz c X.prog X.w X.K X.mg X.base CX k f fd ps sp)(hh:∀ {Y:K2}{U:St}{H:Hp}{s:Shared}{vs:List V}{Q:VK}{E:XK},Inv X Y U H s->sp vs H Q E->vk c X.A.handled H) (hr:bB (k+1) X.A) (hb:Binds X.K fd ps ds) (hd:Vals dvs ds)
  (hx:Passes CX X E) (I:Inv X Y U H s) (r:Vals vs us)
  (h:∀ x dx,H x=none->H dx=none->dx≠x->sp (.ref x::(vs++dvs)) (upd (upd H dx (.own x)) x (.ins C dx [])) (λv H2=>v=.non/\Q (.ref x) H2) (E U)):
  wpAny (model X.prog X.w) X.A (call (.ref C) us) (EP X Y U Q) X.xe s:=by
 have hq:=h (s.heap.objs.size+1) s.heap.objs.size (I.hok.fresh (Nat.le_succ _)) (I.hok.fresh (re _)) (pi (Nat.lt_succ_self _));have I2:=Inv.made (C:=C) I;have r2:Vals (V.ref (s.heap.objs.size+1)::(vs++dvs)) (Value.ref (s.heap.objs.size+1)::(us++ds)):=.cons rfl (r.append hd);have hl:(Value.ref (s.heap.objs.size+1)::us++ds).length=ps.length:=by
  have e:=r2.length;rw[F.len _ _ _ _ hq]at e;exact e.symm
 refine wpAny_call (w8 (f:=f) I.bF M.makes M.init (beq_iff_eq.mp M.fn) (codeAny_mono (F.run _ X.stack _ _ ⟨Value.ref (s.heap.objs.size+1)::us,[]⟩ (Value.ref (s.heap.objs.size+1)::(us++ds)) _ _ (E U) (hr.make C us []) (hh I2 hq)
  (I2.gZ.make C us []) (hb _ (Value.ref (s.heap.objs.size+1)::us) I2.bF hl) r2 hq) λr s' hq'=>?_))
 cases r with
 |error e=>exact hx Y U _ _ e s' I2 hq'
 |ok fl=>
  cases fl with
  |ret u=>
   obtain⟨v,H',I3,rv,ev,q3⟩:=I2.after hq';subst ev;exact⟨rv,⟨V.ref (s.heap.objs.size+1),H',I3,rfl,q3⟩⟩
  |next=>exact False.elim hq'
  |brk=>exact False.elim hq'
  |cont=>exact False.elim hq'
def zB (M:Mk X.K C f)(F:cz c X.prog X.w X.K X.mg X.base CX k f fd ps sp)(hh:∀ {Y:K2}{U:St}{H:Hp}{s:Shared}{vs:List V}{Q:VK}{E:XK},Inv X Y U H s->sp vs H Q E->vk c X.A.handled H) (hr:bB (k+1) X.A) (hg:Gl X x) (hm:X.mg x=some (.ref C)) (hb:Binds X.K fd ps ds) (hd:Vals dvs ds) (hx:Passes CX X E)
  (ha:PA X (e::es) t) (hdb:(x ==("__debug__":Str))=false:=by decide) (he:bm (e::es) X.env=(false,eval e X.env)::bm es X.env:=by rfl) (hpl:(backTo pos (bm es X.env)).any (·.1)=false:=by rfl):
  PE X (.Call (.Name x p) (e::es) [] pos) (CN C sp dvs E t):=by
 intro Y s U H Q I h;refine bv (bg I hg hm ?_ hdb);refine W.callWith_K (h₀:=X.base) I.ok.mod.kin M.kp (ax (ha pos Y s U H _ I h) λus s1 ⟨vs,H1,I1,r,q⟩=>⟨I1.bF,?_⟩) he hpl;exact og M F hh hr hb hd hx I1 r q
def yM (M:Mk X.K C f)(F:cz c X.prog X.w X.K X.mg X.base CX k f fd ps sp)(hh:∀ {Y:K2}{U:St}{H:Hp}{s:Shared}{vs:List V}{Q:VK}{E:XK},Inv X Y U H s->sp vs H Q E->vk c X.A.handled H) (hr:bB (k+1) X.A) (hg:Gl X x) (hm:X.mg x=some (.ref C)) (hb:Binds X.K fd ps ds) (hd:Vals dvs ds) (hx:Passes CX X E)
  (hdb:(x ==("__debug__":Str))=false:=by decide):PE X (.Call (.Name x p) [] [] pos) (CN C sp dvs E Br):=by
 intro Y s U H Q I h;refine bv (bg I hg hm ?_ hdb);exact W.callWith_K0 I.bF M.kp (og (us:=[]) M F hh hr hb hd hx I .nil h)
end
section
variable {X:Cx}{CX:tV}{k:Nat}{f C:Addr}{fd:FuncData}{ps ks:List Str}{sp:Sp}{E:St->XK}{x m:Str}{p pos apos kpos:Pos}{e o:Expr}{es:List Expr}{kws:List Keyword}{te ta:TE}{t tk:TA}{nm:Option Str}
variable {g:List Value->List Value->List Value}{gV:List V->List V->List V}
end
structure i7 (N P:List Str) (sc:Scope):Prop where
 kind:sc.kind=.function
 co:sc.isCoroutine=false
 gen:sc.isGenerator=false
 nd:N.Nodup
 pre:N.take P.length=P
 par:∀ x ∈ P,sc.names.lookup x=some .local\/sc.names.lookup x=some .cell
 nofree:∀ y ∈ sc.names,y.2≠.free
def kY {kindOf:Str->Option NameKind}{x:Str}:∀ {binds:List (Str×Value)}{m:K3},(∀ v,(x,v) ∉ binds)->bindL kindOf binds m x=m x
 | [],_,_=>rfl
 |(n,v)::r,m,h=>by
  unfold bindL;rw[kY λw hw=>h w (dL _ hw)]
  split
  .have:x≠n:=by rintro rfl;exact h v lv
   simp[this]
  .rfl
def k8 {kindOf:Str->Option NameKind}{x:Str}:∀ {binds:List (Str×Value)}{m:K3},(∀ v,(x,v) ∉ binds)->bindC kindOf binds m x=m x
 | [],_,_=>rfl
 |(n,v)::r,m,h=>by
  unfold bindC;rw[k8 λw hw=>h w (dL _ hw)]
  split
  .rfl
  .have:x≠n:=by rintro rfl;exact h v lv
   simp[this]
def lj {kindOf:Str->Option NameKind}{x:Str}{v:Value}:∀ {P:List Str}{vs:List Value}{i:Nat}{m:K3},P.Nodup->P[i]? =some x->vs[i]? =some v->kindOf x=some .local->
  bindL kindOf (P.zip vs) m x=some v
 | [],_,_,_,_,h,_,_=>by simp at h
 |_::_,[],_,_,_,_,h,_=>by simp at h
 |p::P,w::vs,0,m,nd,h1,h2,hk=>by
  simp at h1 h2;subst h1;subst h2;show bindL kindOf ((p,w)::P.zip vs) m p=_;unfold bindL;rw[kY λv hv=>(nodup_cons.mp nd).1 (of_mem_zip hv).1,if_pos hk];simp
 |p::P,w::vs,i+1,m,nd,h1,h2,hk=>by
  show bindL kindOf ((p,w)::P.zip vs) m x=_;unfold bindL;exact lj (i:=i) (nodup_cons.mp nd).2 (by simpa using h1) (by simpa using h2) hk
def kS {kindOf:Str->Option NameKind}{x:Str}{v:Value}:∀ {P:List Str}{vs:List Value}{i:Nat}{m:K3},P.Nodup->P[i]? =some x->vs[i]? =some v->kindOf x≠some .local->
  bindC kindOf (P.zip vs) m x=some v
 | [],_,_,_,_,h,_,_=>by simp at h
 |_::_,[],_,_,_,_,h,_=>by simp at h
 |p::P,w::vs,0,m,nd,h1,h2,hk=>by
  simp at h1 h2;subst h1;subst h2;show bindC kindOf ((p,w)::P.zip vs) m p=_;unfold bindC;rw[k8 λv hv=>(nodup_cons.mp nd).1 (of_mem_zip hv).1,if_neg hk];simp
 |p::P,w::vs,i+1,m,nd,h1,h2,hk=>by
  show bindC kindOf ((p,w)::P.zip vs) m x=_;unfold bindC;exact kS (i:=i) (nodup_cons.mp nd).2 (by simpa using h1) (by simpa using h2) hk
abbrev start (N:List Str)(vs:List V):St:=vs.map some++sK (N.length-vs.length) none
abbrev uo (c:Bool)(CX:tV)(P:Program)(w:World)(K:W.Frag)(mg:K3)(base:Heap)(N:List Str)(qual:Str)(scope:Scope)(f:Addr)(cd:Value)(A:Around)(outer:List Env)(s:Shared)(H:Hp)(E:XK):Cx where
 prog:=P
 w:=w
 K:=K
 mg:=mg
 base:=base
 A:=A.deeper (envOfC qual scope s.heap.objs.size f cd)
 N:=N
 s₀:=s
 H₀:=H
 env:=envOfC qual scope s.heap.objs.size f cd
 outer:=outer
 stack:=envOfC qual scope s.heap.objs.size f cd::outer
 ex:=[]
 calm:=c
 fn:=λ_=>true
 pn:=[]
 xe:=λe s'=>wpAny (model P w) (A.deeper (envOfC qual scope s.heap.objs.size f cd)) (leaving (envOfC qual scope s.heap.objs.size f cd) e) (λ_ s''=>CX outer H s E e s'') (λe' s''=>CX outer H s E e' s'') s'
def pB {sc:Scope}{n:Nat}(h:sc.names.lookup x=some .cell):∃ c,(cellsFrom n sc.names []).lookup x=some c:=by
 have q:=W.cellsFrom_some sc.names n [] (.inl h);exact Option.isSome_iff_exists.mp q
variable {scope:Scope}
def u7 {c:Bool}{N:List Str}{qual:Str}{f:Addr}{cd:Value}{s1:Shared}{E:XK}
  (S:i7 N ps scope) (hd:c=true->A.handled=none) (e0:qS P w K mg base A outer s H) (hl:vs.length=ps.length) (r:Vals vs us)
  (x:InCallC s s.heap.objs.size (bindL (envOfC qual scope s.heap.objs.size f cd).kindOf (ps.zip us) λ_=>none) (cellsFrom (s.heap.objs.size+1) scope.names []) (bindC (envOfC qual scope s.heap.objs.size f cd).kindOf (ps.zip us) λ_=>none) s1):
  Inv (uo c CX P w K mg base N qual scope f cd A outer s H E) [] (start N vs) H s1:=by
 have hpl:ps.length<=N.length:=by have:=congrArg List.length S.pre;rw[dl]at this;omega
 obtain⟨h1,tk,rfl,hk⟩:=x.done;have noA:∀ b:Addr,b ∉ (uo c CX P w K mg base N qual scope f cd A outer s H E).ex:=λb z=>absurd (show b ∈ ([]:List Addr) from z) (by simp)
 refine⟨⟨e0.mod,S.kind,rfl,rfl,re _,λy z c h1 h2=>?_,λy hy=>?_,λy c _ h=>?_,hd,Around.frames_deeper e0.frames,.inr ⟨rfl,rfl⟩,λb z=>absurd z (noA b),e0.bs,e0.bsz,λb _ _=>noA b,λb z=>absurd z (noA b),e0.g6,e0.frf⟩,
  rfl,e0.bare,Un.kept hk,⟨_,x.toInCall.ns,λi y v h1 h2 h3=>?_⟩,λy c h=>⟨_,x.cell y c h⟩,e0.hok.fresh (re _),λy c h=>?_,λp hp=>absurd (show p ∈ ([]:K2) from hp) (by simp),e0.hok.kept hk,?_⟩
 .exact name_of_addr x.apart (PySem.mem_of_lookup h1) (PySem.mem_of_lookup h2)
 .have hy:scope.names.lookup y=some .cell\/scope.names.lookup y=some .free:=hy;rcases hy with hy|hy
  .exact pB hy
  .exact absurd rfl (S.nofree _ (PySem.mem_of_lookup hy))
 .exact Nat.le_of_lt (x.above y c (PySem.mem_of_lookup h))
 .have hi:i<vs.length:=by
   unfold start at h2
   by_cases hi:i<vs.length
   .exact hi
   .rw[getElem?_append_right (by simpa using hi)]at h2;rw[getElem?_replicate]at h2
    split at h2<;>cases h2
  have ha:vs[i]? =some v:=by
   unfold start at h2;rw[getElem?_append_left (by simpa using hi),io]at h2;cases e:vs[i]? with
   |none=>rw[e]at h2;cases h2
   |some a=>rw[e]at h2;cases h2;rfl
  obtain⟨u,hu,rv⟩:=r.get ha;have hp:ps[i]? =some y:=by
   rw[<-S.pre,List.getElem?_take_of_lt nofun];exact h1
  have ndP:ps.Nodup:=by rw[<-S.pre];exact S.nd.sublist (take_sublist _ _)
  refine⟨u,rv,?_⟩;rcases S.par y (db hp) with k|k
  .exact .inl ⟨k,lj ndP hp hu k⟩
  .obtain⟨c,e⟩:=pB (n:=s.heap.objs.size+1) k;refine .inr ⟨.inl k,c,e,?_⟩;have q:=x.cell y c e;rw[kS ndP hp hu (by show scope.names.lookup y≠_;rw[k];decide)]at q;exact q
 .exact e0.hok.fresh (Nat.le_of_lt (x.above y c (PySem.mem_of_lookup h)))
 .unfold start;show _=N.length;rw[cr,ci,length_replicate]
  omega
def FK {c:Bool}{f:Addr}{name qual:Str}{params:Arguments}{dV kV doc pm cdv ct oc:Value}{an od:Option Addr}
  {osl:Array (Option Value)}{N:List Str}{sp:Sp}(lk:K.lookup f=some ⟨oc,od,.func (W.fnOf name qual params body scope dV kV doc pm an cdv ct),osl⟩) (hcd:W.codeIn K cdv qual=true) (S:i7 N ps scope)
  (len:∀ vs H Q E,sp vs H Q E->vs.length=ps.length)
  (hbody:∀ (A:Around) (outer:List Env) (s:Shared) (H:Hp) (vs:List V) (Q:VK) (E:XK),bB k (A.deeper (envOfC qual scope s.heap.objs.size f cdv))->vk c A.handled H->sp vs H Q E->
   ∃ t,Bv (uo c CX P w K mg base N qual scope f cdv A outer s H E) body t/\t { nx:=λ_ H'=>Q .non H',rt:=Q } (start N vs) H):
  cz c P w K mg base CX (k+1) f (W.fnOf name qual params body scope dV kV doc pm an cdv ct) ps sp:=by
 refine⟨len,λA outer s H args us vs Q E hr hh e0 hb r hsp=>?_⟩;have hl:=len _ _ _ _ hsp;have KX:K.In s.heap:=e0.mod.kin.keeps λb o e=>(e0.bs b o e).1
 have lim:s.heap.NoLimit:=e0.mod.nolimit.keeps λb o e=>(e0.bs b o e).1
 have hkind:∀ y ∈ ps.zip us,scope.names.lookup y.1=some .local\/(scope.names.lookup y.1=some .cell/\((cellsFrom (s.heap.objs.size+1) scope.names []).lookup y.1).isSome=true):=λ⟨n,v⟩ hy=>by
  rcases S.par n (of_mem_zip hy).1 with q|q
  .exact .inl q
  .exact .inr ⟨q,W.cellsFrom_some _ _ _ (.inl q)⟩
 refine codeAny_call_function hr.depth (KX _ _ lk) rfl S.co S.gen rfl (W.codeRec_of KX hcd) (hb _ _ _ _ ?_);refine wpAny_newFunctionEnv_cells S.kind hkind λenv he s1 x=>?_
 subst he;refine⟨lim.keeps x.toInCall.keep,codeAny_func ?_⟩;obtain⟨t,ht,hq⟩:=hbody A outer s H vs Q E (hr.deeper _) hh hsp;have I:Inv (uo c CX P w K mg base N qual scope f cdv A outer s H E) [] (start N vs) H s1:=u7 S (λz=>by subst z;exact hh) e0 hl r x;refine wpAny_mono (ht [] s1 (start N vs) H _ I hq) (λfl s' hs=>?_) λe s' hs=>hs
 have fin:∀ {σ':St}{H':Hp}{v:V}{u:Value},Inv (uo c CX P w K mg base N qual scope f cdv A outer s H E) [] σ' H' s'->RelV v u->Q v H'->CE outer P w H s Q u s':=
  λ{σ' H' v u} J rv q=>⟨v,H',J.os,J.bare,J.base,J.hok,rv,q⟩
 cases fl with
 |ret u=>
  obtain⟨v,σ',H',J,rv,q⟩:=hs;exact fin J rv q
 |next=>
  obtain⟨σ',H',J,q⟩:=hs;exact fin (v:=V.non) (u:=Value.none) J rfl q
 |brk=>
  obtain⟨_,_,_,q⟩:=hs;exact False.elim q
 |cont=>
  obtain⟨_,_,_,q⟩:=hs;exact False.elim q
section
variable {X:Cx}{x:Str}{p pos:Pos}{e:Expr}{es:List Expr}{t:TA}{id T:String}{r:List V->Hp->VK->Prop}
abbrev JY (r:List V->Hp->VK->Prop)(t:TA):TE:=λU H Q=>t U H λvs H1=>r vs H1 Q
def jk (hc:cp X (.builtin id) r)(hg:Gl X x)(hm:X.mg x=none)(hv:bootBuiltins x=some (.builtin id))(ha:PA X (e::es) t)(hn:x≠"__name__":=by decide) (hdb:(x ==("__debug__":Str))=false:=by decide)
  (he:bm (e::es) X.env=(false,eval e X.env)::bm es X.env:=by rfl) (hpl:(backTo pos (bm es X.env)).any (·.1)=false:=by rfl):PE X (.Call (.Name x p) (e::es) [] pos) (JY r t):=by
 intro Y s U H Q I h;refine bv (bN I hg hm hv ?_ hn hdb);exact PyProof.Rows.callWith_builtin1 (ax (ha pos Y s U H _ I h) λus s1 ⟨vs,H1,I1,r1,q1⟩=>hc Y s1 U H1 vs us Q I1 r1 q1) he hpl
def tZ (hc:cp X (.type T) r)(hg:Gl X x)(hm:X.mg x=none)(hv:bootBuiltins x=some (.type T))(ha:PA X (e::es) t)(hn:x≠"__name__":=by decide) (hdb:(x ==("__debug__":Str))=false:=by decide)
  (he:bm (e::es) X.env=(false,eval e X.env)::bm es X.env:=by rfl) (hpl:(backTo pos (bm es X.env)).any (·.1)=false:=by rfl):PE X (.Call (.Name x p) (e::es) [] pos) (JY r t):=by
 intro Y s U H Q I h;refine bv (bN I hg hm hv ?_ hn hdb);exact PyProof.Rows.callWith_type1 (ax (ha pos Y s U H _ I h) λus s1 ⟨vs,H1,I1,r1,q1⟩=>hc Y s1 U H1 vs us Q I1 r1 q1) he hpl
end
end L2
namespace HT
open PySem PyProof.Rows
section
open PySem.SeqAt
open PySem.AutoSeq1 (wpAny_loadPart')
open PySem.MeetsSeq PySem.MeetsSeq2 PySem.MeetsSeq3
end
section
variable {prog:Program}{w:World}{A:Around}{E:K1}{s:Shared}
abbrev nZ (n d:Nat):Option Int->Nat
 |none=>d
 |some v=>if v<0 then(v+(n:Int)).toNat else min v.toNat n
end
end HT
namespace L2
open PySem PySem.Spec PyProof.Rows
@[reducible]def TO:=St->Hp->(Option Int->Hp->Prop)->Prop
abbrev PO (X:Cx)(e:Option Expr)(t:TO):Prop:=
 ∀ (Y:K2) (s:Shared) (U:St) (H:Hp) (Q:Option Int->Hp->Prop),Inv X Y U H s->t U H Q->
  wpAny (model X.prog X.w) X.A (evalPart e X.env) (λu s'=>∃ o H',Inv X Y U H' s'/\IsPart u o/\Q o H') X.xe s
abbrev A7:TO:=λ_ H Q=>Q none H
abbrev FZ (t:TE):TO:=λU H Q=>t U H λx H1=>∃ i,x=.int i/\Q (some i) H1
section
variable {X:Cx}{e:Expr}{te:TE}{lo hi:Option Expr}{tl th:TO}{pos p2:Pos}
def zL:PO X none A7:=by
 intro Y s U H Q I h;rw[evalPart_none];exact am ⟨none,H,I,.none,h⟩
def Ag (h:PE X e te):PO X (some e) (FZ te):=by
 intro Y s U H Q I hw;rw[evalPart_some];refine ax (h Y s U H _ I hw) λu s1 ⟨x,H1,I1,r1,q1⟩=>?_
 obtain⟨i,rfl,q⟩:=q1;obtain⟨t,rfl⟩:=r1;exact⟨some i,H1,I1,.int i t,q⟩
abbrev HW (X:Cx)(r:V->Option Int->Option Int->Hp->VK->Prop):Prop:=
 ∀ (Y:K2) (s:Shared) (U:St) (H:Hp) (x:V) (v vl vu:Value) (lo hi:Option Int) (sl:Addr) (Q:VK),Inv X Y U H s->RelV x v->s.heap.IsSliceOf sl vl vu .none->IsPart vl lo->IsPart vu hi->r x lo hi H Q->
  ∃ T id,typeLookup (.type T) "__getitem__"=pure (some (.builtin id))/\s.TypeIs v T/\wpAny (model X.prog X.w) X.A (getItem v (.ref sl)) (EP X Y U Q) X.xe s
abbrev Kt (r:V->Option Int->Option Int->Hp->VK->Prop)(te:TE)(tl th:TO):TE:=λU H Q=>te U H λx H1=>tl U H1 λl H2=>th U H2 λu H3=>r x l u H3 Q
def xM {r:V->Option Int->Option Int->Hp->VK->Prop}(hr:HW X r)(he:PE X e te)(hl:PO X lo tl)(hu:PO X hi th):PE X (.Subscript e (.Slice lo hi none p2) pos) (Kt r te tl th):=by
 intro Y s U H Q I h;refine Subscript_ (ax (he Y s U H _ I h) λv s1 ⟨x,H1,I1,r1,q1⟩=>?_);refine wpAny_Slice (ax (hl Y s1 U H1 _ I1 q1) λvl s2 ⟨l,H2,I2,pl,q2⟩=>ax (hu Y s2 U H2 _ I2 q2) λvu s3 ⟨u,H3,I3,pu,q3⟩=>?_);rw[evalPart_none];refine am ?_;have I4:Inv X Y U H3 { s3 with heap:=s3.heap.push { cls:=.type "slice",data:=.fields #[vl,vu,.none] } }:=I3.kept (t':=s3.toks) λb ob q=>ul _ q
 obtain⟨T,id,hT,ht,hg⟩:=hr Y { s3 with heap:=s3.heap.push { cls:=.type "slice",data:=.fields #[vl,vu,.none] } } U H3 x v vl vu l u s3.heap.objs.size Q I4 r1 (Heap.IsSliceOf.new ..) pl pu q3;show wpAny (model X.prog X.w) X.A (subscriptTail e (.Slice lo hi none p2) v (.ref s3.heap.objs.size)) (EP X Y U Q) X.xe { s3 with heap:=s3.heap.push { cls:=.type "slice",data:=.fields #[vl,vu,.none] } };exact tail_any (ops:=[.ref s3.heap.objs.size,v]) ht hT hg (by with_unfolding_all rfl)
abbrev pz (xs:List V)(lo hi:Option Int):List V:=(xs.drop (HT.nZ xs.length 0 lo)).take (HT.nZ xs.length xs.length hi-HT.nZ xs.length 0 lo)
def pL (xs:List V)(lo hi:Option Int):(pz xs lo hi).length<=xs.length:=by
 unfold pz;rw[dl,jp]
 omega
end
abbrev xJ (n:Nat)(i:Int):Option Nat:=if 0<=i then(if i<n then some i.toNat else none) else if -(n:Int)<=i then some (i+n).toNat else none
variable {α:Type}
abbrev kU (xs:List α)(i:Int):Option α:=(xJ xs.length i).bind λj=>xs[j]?
variable {n:Nat}
def rY {i:Int}{j:Nat}(h:xJ n i=some j):seqIndex? i n=some j/\j<n/\ -(n:Int)<=i/\i<n:=by
 unfold xJ at h
 by_cases h0:0<=i
 .rw[if_pos h0]at h
  by_cases h1:i<n
  .rw[if_pos h1]at h;have e:i.toNat=j:=Option.some.inj h;exact⟨by rw[seqIndex_of h0 h1,e],by omega,by omega,h1⟩
  .rw[if_neg h1]at h;cases h
 .rw[if_neg h0]at h
  by_cases h1: -(n:Int)<=i
  .rw[if_pos h1]at h;have e:(i+n).toNat=j:=Option.some.inj h;exact⟨by rw[seqIndex_neg nofun h1,e],by omega,h1,by omega⟩
  .rw[if_neg h1]at h;cases h
def cR {xs:List α}{i:Int}{v:α}(h:kU xs i=some v):∃ j,seqIndex? i xs.length=some j/\xs[j]? =some v/\j<xs.length/\ -(xs.length:Int)<=i/\i<xs.length:=by
 unfold kU at h;cases e:xJ xs.length i with
 |none=>rw[e]at h;cases h
 |some j=>
  rw[e]at h;obtain⟨h1,h2,h3,h4⟩:=rY e;exact⟨j,h1,h,h2,h3,h4⟩
def cT {xs:List α}{j:Nat}{v:α}(h:xs[j]? =some v):kU xs (j:Int)=some v:=by
 have hj:j<xs.length:=(tz.mp h).1;have e:xJ xs.length (j:Int)=some j:=by
  unfold xJ;rw[if_pos nofun,if_pos nofun];simp
 unfold kU;rw[e];exact h
abbrev sQ (b:Expr):Prop:=∀ o i,subscripted b false o i=operate [o,i] (getItem o i)
abbrev GU (X:Cx)(r:R2):Prop:=
 ∀ (value slice:Expr) (Y:K2) (s:Shared) (U:St) (H:Hp) (x y:V) (v u:Value) (Q:VK),Inv X Y U H s->RelV x v->RelV y u->r x y H Q->
  subscripted slice false v u=operate [v,u] (getItem v u)->wpAny (model X.prog X.w) X.A (subscriptTail value slice v u) (EP X Y U Q) X.xe s
abbrev Ip (X:Cx)(id:String)(r:V->List V->Hp->VK->Prop):Prop:=
 ∀ (Y:K2) (s:Shared) (U:St) (H:Hp) (x:V) (xs:List V) (v:Value) (us:List Value) (Q:VK),Inv X Y U H s->RelV x v->Vals xs us->r x xs H Q->
  wpAny (model X.prog X.w) X.A (call (.builtin id) (v::us)) (EP X Y U Q) X.xe s
variable {Y:K2}{U:St}{H:Hp}{s:Shared}{y:V}{u:Value}
section
variable {X:Cx}{a b:Expr}{ta tb:TE}{pos:Pos}
def Ha {r:R2}(hr:GU X r)(ha:PE X a ta)(hb:PE X b tb)(hs:sQ b):PE X (.Subscript a b pos) (Ik r ta tb):=by
 intro Y s U H Q I h;exact Subscript_ (Ed ha hb I h λv u s2 x y H2 I2 rx ry q=>hr a b Y s2 U H2 x y v u Q I2 rx ry q (hs _ _))
abbrev JL (K:W.Frag):R2:=λx y H Q=>∃ p xs i v,x=.ref p/\y=.int i/\ba K H p xs/\kU xs i=some v/\Q v H
abbrev Jk (K:W.Frag):R2:=λx y H Q=>∃ p xs i v,x=.ref p/\y=.int i/\aX K H p xs/\kU xs i=some v/\Q v H
def Ax:GU X (JL X.K):=by
 intro value slice Y s U H x y v u Q I rx ry h hs;obtain⟨p,xs,i,z,rfl,rfl,hq,he,q⟩:=h;cases rx;obtain⟨t,rfl⟩:=ry;obtain⟨its,r,pl,hz⟩:=I.list hq;obtain⟨j,h1,h2,h3,h4,h5⟩:=cR he;obtain⟨w,ew,rw'⟩:=r.get h2;have hl:=r.length;have hn:=fH;have fin:EP X Y U Q w s:=⟨z,H,I,rw',q⟩
 by_cases h0:0<=i
 .have hj:i.toNat=j:=by
   rw[seqIndex_of h0 h5]at h1;exact Option.some.inj h1
  exact item_listR pl.isList h0 nofun (by rw[hj];simpa using ew) fin hs
 .have hj:(i+(its.toArray.size:Int)).toNat=j:=by
   rw[seqIndex_neg nofun h4]at h1;rw[ii,<-hl];exact Option.some.inj h1
  exact subscriptTail_builtinR (x:=w) pl.isList.typeIs slot_list_getitem.lookup
   (wpAny_getItem_list_neg (Q:=λr s'=>r=w/\EP X Y U Q r s') pl.isList nofun (by rw[ii]<;>omega) nofun (by rw[hj];simpa using ew) ⟨rfl,fin⟩) hs
def EC:GU X (Jk X.K):=by
 intro value slice Y s U H x y v u Q I rx ry h hs;obtain⟨p,xs,i,z,rfl,rfl,hq,he,q⟩:=h;cases rx;obtain⟨t,rfl⟩:=ry;obtain⟨its,r,pl,hz⟩:=I.tuple hq;obtain⟨j,h1,h2,h3,h4,h5⟩:=cR he;obtain⟨w,ew,rw'⟩:=r.get h2;have hl:=r.length;have hn:=fH;have fin:EP X Y U Q w s:=⟨z,H,I,rw',q⟩;exact subscriptTail_builtinR (x:=w) pl.typeIs slot_tuple_getitem.lookup
  (getItem_tuple (j:=j) (Q:=λr s'=>r=w/\EP X Y U Q r s') pl nofun nofun (by rw[ii,<-hl];exact h1) (by simpa using ew) ⟨rfl,fin⟩) hs
def qQ (its:List Value)(n j:Nat)(u:Value):Obj.mapSeq (·.setIfInBounds j u) { cls:=.type "list",data:=.seq its.toArray n }={ cls:=.type "list",data:=.seq (its.set j u).toArray n }:=by
 simp[Obj.mapSeq]
def Inv.lst {Y:K2}{U:St}{H:Hp}{s:Shared}{p:Addr}{xs:List V}(I:Inv X Y U H s)(h:H p=some (.lst xs)):
  ∃ (its:List Value) (n:Nat),Vals xs its/\s.heap.get? p=some { cls:=.type "list",data:=.seq its.toArray n }/\xs.length<=bn:=by
 obtain⟨z,its,n,r,e⟩:=I.hok p _ h;exact⟨its,n,r,e,z⟩
def Inv.DL {p:Addr}{xs ys:List V}{its its':List Value}{n':Nat}{f:Obj->Obj}(I:Inv X Y U H s)(h:H p=some (.lst xs))
  (ho:s.heap.get? p=some { cls:=.type "list",data:=.seq its.toArray n }) (hf:f { cls:=.type "list",data:=.seq its.toArray n }={ cls:=.type "list",data:=.seq its'.toArray n' }) (r:Vals ys its') (hz:ys.length<=bn) (t:Nat):
  Inv X Y U (upd H p (.lst ys)) { s with heap:=s.heap.update p f,toks:=t }:=by
 have e:(s.heap.update p f).get? p=some { cls:=.type "list",data:=.seq its'.toArray n' }:=by
  rw[Heap.get?_update_self f ho (by rw[hf]<;>rfl),hf]
 refine I.write (x:=p) (e:=p) (by rw[h];trivial) (.inl rfl) (λb u hb q=>(Heap.get?_update_other _ _ (Ne.symm hb)).trans q) ⟨_,e⟩ ?_;exact⟨hz,its',n',r,e⟩
abbrev GR:V->V->V->Hp->(Hp->Prop)->Prop:=λo i v H Q=>∃ p xs k j,o=.ref p/\i=.int k/\H p=some (.lst xs)/\xJ xs.length k=some j/\Q (upd H p (.lst (xs.set j v)))
def set_list:Bw X GR:=by
 intro Y s U H o i v ov iv u Q I ro ri rv h;obtain⟨p,xs,k,j,rfl,rfl,hp,hj,q⟩:=h;cases ro;obtain⟨t,rfl⟩:=ri;obtain⟨its,n,r,ho,hz⟩:=I.lst hp;obtain⟨h1,h2,h3,h4⟩:=rY hj;have hl:=r.length;have hn:=fH;have I':Inv X Y U (upd H p (.lst (xs.set j v))) { s with heap:=s.heap.update p (Obj.mapSeq (·.setIfInBounds j u)) }:=
  I.DL hp ho (qQ its n j u) (r.set rv j) (by rw[length_set];exact hz) s.toks
 by_cases h0:0<=k
 .have hk:k.toNat=j:=by
   rw[seqIndex_of h0 h4]at h1;exact Option.some.inj h1
  exact W.ki_setAt ho h0 nofun (by rw[ii,<-hl];exact h4) (by rw[hk];exact⟨_,I',q⟩)
 .have hk:(k+(its.toArray.size:Int)).toNat=j:=by
   rw[seqIndex_neg nofun h3]at h1;rw[ii,<-hl];exact Option.some.inj h1
  exact W.ki_setBack ho nofun (by rw[ii,<-hl];exact h3) nofun (by rw[hk];exact⟨_,I',q⟩)
def lT (lo hi:Option Int)(n:Nat):(sliceBounds lo hi none n).1=((HT.nZ n 0 lo:Nat):Int)/\(sliceBounds lo hi none n).2.1=((HT.nZ n n hi:Nat):Int)/\(sliceBounds lo hi none n).2.2=1:=by
 refine⟨?_,?_,rfl⟩
 .cases lo with
  |none=>simp[sliceBounds,HT.nZ]
  |some i=>
   simp only[sliceBounds,HT.nZ,Option.getD_none,show(1:Int)>0 by decide,if_true]
   by_cases h:i<0
   .simp only[h,if_true]<;>omega
   .simp only[h,if_false]<;>omega
 .cases hi with
  |none=>simp[sliceBounds,HT.nZ]
  |some i=>
   simp only[sliceBounds,HT.nZ,Option.getD_none,show(1:Int)>0 by decide,if_true]
   by_cases h:i<0
   .simp only[h,if_true]<;>omega
   .simp only[h,if_false]<;>omega
def kq (its:List Value)(lo hi:Option Int):slicePick its.toArray lo hi none=((its.drop (HT.nZ its.length 0 lo)).take (HT.nZ its.length its.length hi-HT.nZ its.length 0 lo)).toArray:=by
 obtain⟨h1,h2,h3⟩:=lT lo hi its.toArray.size;unfold slicePick;rw[h1,h2,h3];simp only[sliceRange_one,pick_run,ii]<;>rfl
abbrev Ju (K:W.Frag):V->Option Int->Option Int->Hp->VK->Prop:=λx lo hi H Q=>∃ a xs,x=.ref a/\ba K H a xs/\∀ p,H p=none->Q (.ref p) (upd H p (.lst (pz xs lo hi)))
def AL:HW X (Ju X.K):=by
 intro Y s U H x v vl vu lo hi sl Q I rx hs pl pu h;obtain⟨a,xs,rfl,hx,q⟩:=h;cases rx;obtain⟨its,r,ht,hz⟩:=I.list hx;have hlen:=r.length;refine⟨"list",_,slot_list_getitem.lookup,ht.isList.typeIs,?_⟩;refine wpAny_getItem_list_slice ht.isList hs pl pu .none (by simp) ?_ (by rw[ii]<;>omega);rw[kq,<-hlen];refine⟨.ref s.heap.objs.size,_,I.laid (t':=s.toks) (o:=.lst (pz xs lo hi)) (λb ob q=>ul _ q) (re _) ?_,rfl,q _ (I.hok.fresh (re _))⟩;exact⟨Nat.le_trans (pL xs lo hi) hz,_,0,(r.drop (HT.nZ xs.length 0 lo)).take (HT.nZ xs.length xs.length hi-HT.nZ xs.length 0 lo),v0 _ rfl⟩
abbrev aG:V->Bool
 | .non=>true
 | .bl _=>true
 | .int _=>true
 | .str _=>true
 |_=>false
abbrev lX:V->V->Bool
 | .non,.non=>true
 | .bl a,.bl b=>a ==b
 | .bl a,.int b=>(if a then 1 else 0) ==b
 | .int a,.bl b=>a ==(if b then 1 else 0)
 | .int a,.int b=>a ==b
 | .str a,.str b=>a ==b
 |_,_=>false
def xE {A:Around}{x:V}{v:Value}(ry:RelV y u)(rx:RelV x v)(fy:aG y=true)(fx:aG x=true):SeqAt.EqAt A s u v (lX y x):=by
 cases y with
 |non=>
  cases ry;cases x with
  |non=>cases rx;exact SeqAt.EqAt.same _
  |bl b=>cases rx;exact SeqAt.EqAt.none_bool b
  |int b=>obtain⟨t,rfl⟩:=rx;exact SeqAt.EqAt.none_int b t
  |str b=>obtain⟨t,rfl⟩:=rx;exact SeqAt.EqAt.none_str b t
  |_=>exact absurd (show false=true from fx) Bool.false_ne_true
 |bl a=>
  cases ry;cases x with
  |non=>cases rx;exact SeqAt.EqAt.bool_none a
  |bl b=>cases rx;exact SeqAt.EqAt.bool_bool a b
  |int b=>obtain⟨t,rfl⟩:=rx;exact SeqAt.EqAt.bool_int a b t
  |str b=>obtain⟨t,rfl⟩:=rx;exact SeqAt.EqAt.bool_str a b t
  |_=>exact absurd (show false=true from fx) Bool.false_ne_true
 |int a=>
  obtain⟨t',rfl⟩:=ry;cases x with
  |non=>cases rx;exact SeqAt.EqAt.int_none a t'
  |bl b=>cases rx;exact SeqAt.EqAt.int_bool a t' b
  |int b=>obtain⟨t,rfl⟩:=rx;exact SeqAt.EqAt.int_int a t' b t
  |str b=>obtain⟨t,rfl⟩:=rx;exact SeqAt.EqAt.int_str a t' b t
  |_=>exact absurd (show false=true from fx) Bool.false_ne_true
 |str a=>
  obtain⟨t',rfl⟩:=ry;cases x with
  |non=>cases rx;exact SeqAt.EqAt.str_none a t'
  |bl b=>cases rx;exact SeqAt.EqAt.str_bool a t' b
  |int b=>obtain⟨t,rfl⟩:=rx;exact SeqAt.EqAt.str_int a t' b t
  |str b=>obtain⟨t,rfl⟩:=rx;exact SeqAt.EqAt.str_str a t' b t
  |_=>exact absurd (show false=true from fx) Bool.false_ne_true
 |_=>exact absurd (show false=true from fy) Bool.false_ne_true
abbrev Ar (x:V)(u:Value):Bool:=match u with
 | .none=>lX .non x
 | .bool b=>lX (.bl b) x
 | .int i _=>lX (.int i) x
 | .str z _=>lX (.str z) x
 |_=>false
def yw {x:V}(r:RelV y u)(f:aG y=true):Ar x u=lX y x:=by
 cases y with
 |non=>cases r;rfl
 |bl b=>cases r;rfl
 |int i=>obtain⟨t,rfl⟩:=r;rfl
 |str z=>obtain⟨t,rfl⟩:=r;rfl
 |_=>exact absurd (show false=true from f) Bool.false_ne_true
def mC {x:V}:∀ {xs:List V}{us:List Value},Vals xs us->xs.all aG=true->us.any (Ar x)=xs.any λy=>lX y x
 |_,_,.nil,_=>rfl
 |y::xs,u::us,.cons r t,f=>by
  rw[all_cons,mo]at f;rw[any_cons,any_cons,yw r f.1,mC t f.2]
def jA {A:Around}{s:Shared}{x:V}{v:Value}(rx:RelV x v)(fx:aG x=true):∀ {xs:List V}{us:List Value},Vals xs us->xs.all aG=true->∀ u ∈ us,SeqAt.EqAt A s u v (Ar x u)
 |_,_,.nil,_=>λu hu=>by cases hu
 |y::xs,u::us,.cons r t,f=>λu' hu=>by
  rw[all_cons,mo]at f;rcases lw.mp hu with rfl|hu
  .rw[yw r f.1];exact xE r rx f.1 fx
  .exact jA rx fx t f.2 u' hu
abbrev FA (x:V)(xs:List V):Bool:=xs.any λy=>lX y x
abbrev KL (K:W.Frag)(neg:Bool):R2:=λx y H Q=>∃ p xs,y=.ref p/\(ba K H p xs\/aX K H p xs)/\aG x=true/\xs.all aG=true/\Q (.bl (if neg then !FA x xs else FA x xs)) H
def t8:cI X (compareOp .In) (KL X.K false):=by
 intro Y s U H x y v u Q I rx ry h;obtain⟨p,xs,rfl,hq,fx,fs,q⟩:=h;cases ry;rcases hq with hq|hq
 .obtain⟨its,r,pl,hz⟩:=I.list hq;refine SeqAt.in_listAt (Ar x) pl.isList (λw hw=>jA rx fx r fs w (by simpa using hw)) ⟨.bl _,H,I,rfl,?_⟩;rw[show its.toArray.any (Ar x)=its.any (Ar x) by simp,mC r fs];exact q
 .obtain⟨its,r,pl,hz⟩:=I.tuple hq;refine SeqAt.in_tupleAt (Ar x) pl (λw hw=>jA rx fx r fs w (by simpa using hw)) ⟨.bl _,H,I,rfl,?_⟩;rw[show its.toArray.any (Ar x)=its.any (Ar x) by simp,mC r fs];exact q
def lH:cp X (.type "list") (λxs H Q=>∃ p ys,xs=[.ref p]/\(ba X.K H p ys\/aX X.K H p ys)/\∀ l,H l=none->Q (.ref l) (upd H l (.lst ys))):=by
 intro Y s U H xs us Q I r h;obtain⟨p,ys,rfl,hq,q⟩:=h;obtain⟨u,rfl,rx⟩:=vals1 r;cases rx;have fin:∀ (its:List Value),Vals ys its->ys.length<=bn->∀ (h':Heap) (c':Nat),(∀ b o',s.heap.get? b=some o'->h'.get? b=some o')->
   h'.get? s.heap.objs.size=some { cls:=.type "list",dict:=none,data:=.seq its.toArray c',slots:=#[] }->EP X Y U Q (.ref s.heap.objs.size) { s with heap:=h' }:=λits r' hz h' c' kp e=>
  ⟨.ref s.heap.objs.size,_,I.laid (t':=s.toks) kp (re _) (show au X.prog X.w _ h' _ (.lst ys) from⟨hz,its,c',r',e⟩),rfl,q _ (I.hok.fresh (re _))⟩
 rcases hq with hq|hq
 .obtain⟨its,r',pl,hz⟩:=I.list hq;have hlen:=r'.length;obtain⟨o,ho,hc,n,hd⟩:=pl.isList;exact call_list_seq p (.inl rfl) ho hc hd (λh' c' kp e=>fin its r' hz h' c' kp e) (by simp only[ii]<;>omega)
 .obtain⟨its,r',pl,hz⟩:=I.tuple hq;have hlen:=r'.length;obtain⟨o,ho,hc,n,hd⟩:=pl;exact call_list_seq p (.inr rfl) ho hc hd (λh' c' kp e=>fin its r' hz h' c' kp e) (by simp only[ii]<;>omega)
def kG:cp X (.type "tuple") (λxs H Q=>∃ p ys,xs=[.ref p]/\((ba X.K H p ys/\∀ l,H l=none->Q (.ref l) (upd H l (.tup ys)))\/(aX X.K H p ys/\Q (.ref p) H))):=by
 intro Y s U H xs us Q I r h;obtain⟨p,ys,rfl,h⟩:=h;obtain⟨u,rfl,rx⟩:=vals1 r;cases rx;rcases h with⟨hq,q⟩|⟨hq,q⟩
 .obtain⟨its,r',pl,hz⟩:=I.list hq;have hlen:=r'.length;refine call_tuple_list pl.isList (λh' kp=>?_) (by simp only[ii]<;>omega);have I1:Inv X Y U H { s with heap:=h' }:=I.kept (t':=s.toks) kp;have I2:Inv X Y U (upd H h'.objs.size (.tup ys)) { s with heap:=h'.push { cls:=.type "tuple",data:=.seq its.toArray } }:=
   I1.laid (t':=s.toks) (λb o e=>ul _ e) (re _) (show au X.prog X.w _ _ _ (.tup ys) from⟨hz,its,r',IsTup.new _ _⟩)
  exact⟨.ref h'.objs.size,_,I2,rfl,q _ (I1.hok.fresh (re _))⟩
 .obtain⟨its,r',pl,hz⟩:=I.tuple hq;exact call_tuple_same pl ⟨.ref p,H,I,rfl,q⟩
abbrev IS (K:W.Frag)(T:String)(x:V)(H:Hp):Prop:=match x with
 | .str _=>T="str"
 | .int _=>T="int"
 | .ref p=>(T="list"/\∃ xs,ba K H p xs)\/(T="tuple"/\∃ o,K.lookup p=some o/\o.cls=.type "tuple"/\o.dict=none)\/
   (T="dict"/\((∃ kvs,H p=some (.dK kvs))\/∃ kvs,H p=some (.dT kvs)))\/(T="set"/\∃ S n,H p=some (.set S n))
 |_=>False
def rH {T:String}{x:V}{v:Value}(I:Inv X Y U H s)(r:RelV x v)(ty:IS X.K T x H):
  s.TypeIs v T/\∀ a,v=.ref a->∃ ob,s.heap.get? a=some ob/\ob.dict=none:=by
 cases x with
 |str z=>
  obtain⟨t,rfl⟩:=r;cases(show T="str" from ty);exact⟨typeIs_str s z t,λ_ e=>nomatch e⟩
 |int i=>
  obtain⟨t,rfl⟩:=r;cases(show T="int" from ty);exact⟨typeIs_int s i t,λ_ e=>nomatch e⟩
 |ref p=>
  cases r;rcases ty with⟨rfl,xs,hq⟩|⟨rfl,o,hk,hc,hd⟩|⟨rfl,hk⟩|⟨rfl,S,n,hk⟩
  .obtain⟨its,_,pl,_⟩:=I.list hq;refine⟨pl.isList.typeIs,λa e=>?_⟩;cases e;obtain⟨o,n,e,c,hd,_⟩:=pl;exact⟨o,e,hd⟩
  .refine⟨⟨o,I.bF p o hk,hc⟩,λa e=>?_⟩;cases e;exact⟨o,I.bF _ o hk,hd⟩
  .have z:∃ o,s.heap.get? p=some o/\o.ExactDict:=by
    rcases hk with⟨kvs,hk⟩|⟨kvs,hk⟩
    .obtain⟨_,_,_,_,o,_,_,e,ex,_⟩:=I.hok p _ hk;exact⟨o,e,ex⟩
    .obtain⟨_,_,_,_,o,_,_,e,ex,_⟩:=I.hok p _ hk;exact⟨o,e,ex⟩
   obtain⟨o,e,ex⟩:=z;refine⟨⟨o,e,ex.1⟩,λa e2=>?_⟩;cases e2;exact⟨o,e,ex.2.1⟩
  .obtain⟨o,_,_,_,e,ex,_⟩:=I.hok p _ hk;refine⟨⟨o,e,ex.1⟩,λa e2=>?_⟩;cases e2;exact⟨o,e,ex.2.1⟩
 |_=>exact False.elim ty
abbrev Jp (K:W.Frag)(T:String)(r:V->List V->Hp->VK->Prop)(to:TE):TE:=λU H Q=>to U H λx H1=>IS K T x H1/\r x [] H1 Q
abbrev Kz (K:W.Frag)(T:String)(r:V->List V->Hp->VK->Prop)(to:TE)(t:TA):TE:=λU H Q=>to U H λx H1=>IS K T x H1/\t U H1 λxs H2=>r x xs H2 Q
variable {o e:Expr}{es:List Expr}{to:TE}{t:TA}{name:Str}{apos cpos:Pos}{T id:String}{r:V->List V->Hp->VK->Prop}
def Fs (pa:PlainAttrs T)(slot:Slot T name id)(hty:typeOf (.builtin id)=pure (.type "method_descriptor")) (hm:Ip X id r) (ho:PE X o to)
  (hbase:attributeBase o name X.env (eval o X.env)=eval o X.env:=by rfl) (hline:(apos.endLine ==cpos.line)=true:=by rfl):PE X (.Call (.Attribute o name apos) [] [] cpos) (Jp X.K T r to):=by
 intro Y s U H Q I h;refine wpAny_Call_method0_late hbase hline (ax (ho Y s U H _ I h) λv s1 ⟨x,H1,I1,r1,ty,q1⟩=>?_);obtain⟨h1,h2⟩:=rH I1 r1 ty;exact⟨T,id,pa,slot,hty,h1,h2,Calls.callWith_builtin rfl (PySem.evalArgs_none (hm Y s1 U H1 x [] v [] Q I1 r1 .nil q1))⟩
def G4 (pa:PlainAttrs T)(slot:Slot T name id)(hty:typeOf (.builtin id)=pure (.type "method_descriptor")) (hm:Ip X id r) (ho:PE X o to) (ha:PA X (e::es) t)
  (hbase:attributeBase o name X.env (eval o X.env)=eval o X.env:=by rfl)
  (hfew:((backTo cpos (bm (e::es) X.env)).all (λx=>!x.1)&&(backToKw cpos (keywordEach [] X.env)).all (λx=>x.1.isSome)
   &&decide ((e::es).length+([]:List Keyword).length+(if([]:List Keyword).isEmpty then 0 else 1)<30))=true:=by rfl)
  (hline:(apos.endLine ==cpos.line)=true:=by rfl) (hs:bm (e::es) X.env=(false,eval e X.env)::bm es X.env:=by rfl) (hplain:(backTo cpos (bm es X.env)).any (·.1)=false:=by rfl):
  PE X (.Call (.Attribute o name apos) (e::es) [] cpos) (Kz X.K T r to t):=by
 intro Y s U H Q I h;refine wpAny_Call_method_late hbase hfew hline rfl (ax (ho Y s U H _ I h) λv s1 ⟨x,H1,I1,r1,ty,q1⟩=>?_);obtain⟨h1,h2⟩:=rH I1 r1 ty;refine⟨T,id,pa,slot,hty,h1,h2,?_⟩;have hA:=ha cpos Y s1 U H1 _ I1 q1;rw[hs]at hA⊢;refine Calls.callWith_builtin (by show(false||(backTo cpos (bm es X.env)).any (·.1))=false;rw[hplain]<;>rfl) (Calls.evalArgs_plain ?_);exact ax hA λus s2 ⟨vs,H2,I2,r2,q2⟩=>hm Y s2 U H2 x vs v us Q I2 r1 r2 q2
/- xs.append(e),list.index on a module's tuple .. are Ip facts of 06m -/
end
abbrev Jo (X:Cx)(id:String)(r:V->List V->Hp->VK->Prop):Prop:=
 ∀ (Y:K2) (s:Shared) (U:St) (H:Hp) (x:V) (xs:List V) (v:Value) (us:List Value) (Q:VK),Inv X Y U H s->RelV x v->Vals xs us->r x xs H Q->
  wpAny (model X.prog X.w) X.A (call (.builtin id) (v::us)) (EP X Y U Q) X.xe s
def Vals.one:∀ {x:V}{us:List Value},Vals [x] us->∃ u,us=[u]/\RelV x u
 |_,_,.cons r .nil=>⟨_,rfl,r⟩
def Vals.zero:∀ {us:List Value},Vals [] us->us=[]
 |_,.nil=>rfl
variable {us:List Value}
def Vals.reverse {xs:List V}(h:Vals xs us):Vals xs.reverse us.reverse:=by
 induction h with
 |nil=>exact .nil
 |cons r t ih=>rw[List.reverse_cons,List.reverse_cons];exact Vals.append ih (.cons r .nil)
def Vals.rep {xs:List V}(h:Vals xs us):∀ k:Nat,Vals (sK k xs).flatten (sK k us).flatten
 |0=>.nil
 |k+1=>by
  rw[replicate_succ,replicate_succ,flatten_cons,flatten_cons];exact Vals.append h (Vals.rep h k)
def foldl_rep (its:List Value):∀ (k:Nat) (acc:List Value),
  List.foldl (λx1 x2=>x1++x2) acc.toArray (sK k its.toArray)=(acc++(sK k its).flatten).toArray
 |0,acc=>by simp
 |k+1,acc=>by
  have e:acc.toArray++its.toArray=(acc++its).toArray:=by simp
  have e2:(acc++its)++(sK k its).flatten=acc++(sK (k+1) its).flatten:=by
   rw[replicate_succ,flatten_cons,le]
  rw[<-e2,<-foldl_rep its k (acc++its),<-e,replicate_succ,foldl_cons]
section
variable {X:Cx}{Y:K2}{U:St}{H:Hp}{s:Shared}{l b:Addr}{xs ys zs:List V}
def Inv.D6 {its its':List Value}{f:Array Value->Array Value}{t':Nat}(I:Inv X Y U H s)(hH:H l=some (.lst xs))
  (e:s.heap.get? l=some { cls:=.type "list",data:=.seq its.toArray n }) (hf:f its.toArray=its'.toArray) (hv:Vals ys its') (hz:ys.length<=bn):
  Inv X Y U (upd H l (.lst ys)) { s with heap:=s.heap.update l (Obj.mapSeq f),toks:=t' }:=by
 have q:=PySem.IsL.update e f;rw[hf]at q;refine I.write (x:=l) (e:=l) (by rw[hH];exact trivial) (.inl rfl) (λb' u hb hu=>(Heap.get?_update_other s.heap (Obj.mapSeq f) (Ne.symm hb)).trans hu) ⟨_,q⟩ ?_;exact⟨hz,its',_,hv,q⟩
def Inv.Hz {its:List Value}{t':Nat}(I:Inv X Y U H s)(hv:Vals ys its)(hz:ys.length<=bn):
  Inv X Y U (upd H s.heap.objs.size (.lst ys)) { s with heap:=s.heap.push { cls:=.type "list",data:=.seq its.toArray },toks:=t' }:=
 I.laid (λ_ _ q=>ul _ q) (re _) ⟨hz,its,0,hv,v0 _ rfl⟩
def Inv.fresh (I:Inv X Y U H s):H s.heap.objs.size=none:=I.hok.fresh (re _)
def Inv.oY (I:Inv X Y U H s)(hH:H l=some (.lst xs)):xs.length<=bn/\∃ (its:List Value) (n:Nat),Vals xs its/\xs.length=its.length/\s.heap.get? l=some { cls:=.type "list",data:=.seq its.toArray n }:=by
 obtain⟨z,its,n,r,e⟩:=I.hok l _ hH;exact⟨z,its,n,r,r.length,e⟩
def pD (h:n<=bn):Builtin.List.listTooLong n=false:=by
 unfold Builtin.List.listTooLong;exact decide_eq_false nofun
end
section
variable {X:Cx}
abbrev zC:V->List V->Hp->VK->Prop:=λx vs H Q=>∃ l xs y,x=.ref l/\vs=[y]/\H l=some (.lst xs)/\xs.length<bn/\Q .non (upd H l (.lst (xs++[y])))
def gG:Jo X "list.append" zC:=by
 intro Y s U H x vs v us Q I rx rv h;obtain⟨l,xs,y,rfl,rfl,hH,hz,q⟩:=h;cases rx;obtain⟨u,rfl,ru⟩:=rv.one;obtain⟨z,its,n,r,hl,e⟩:=I.oY hH;refine call_meets F.slot_list_append ⟨_,e,rfl⟩ F.entry_list_append (F.args_list_append_2 _ _) (PySem.list_append l its.toArray n u (by rw[ii];omega)) ⟨e,?_⟩;refine⟨.non,_,I.D6 (its':=its++[u]) hH e (by simp) (r.append (.cons ru .nil)) ?_,rfl,q⟩;rw[cr,ge]
 omega
abbrev An:V->List V->Hp->VK->Prop:=λx vs H Q=>∃ l b xs zs,x=.ref l/\vs=[.ref b]/\H l=some (.lst xs)/\H b=some (.lst zs)/\xs.length+zs.length<=bn/\Q .non (upd H l (.lst (xs++zs)))
def uP:Jo X "list.extend" An:=by
 intro Y s U H x vs v us Q I rx rv h;obtain⟨l,b,xs,zs,rfl,rfl,hH,hB,hz,q⟩:=h;cases rx;obtain⟨u,rfl,ru⟩:=rv.one;cases ru;obtain⟨z,its,n,r,hl,e⟩:=I.oY hH;obtain⟨z2,jR,n2,r2,hl2,e2⟩:=I.oY hB;have hsz:its.toArray.size+jR.toArray.size<=bn:=by rw[ii,ii];omega
 have hlong:¬ (!its.toArray.isEmpty&&Builtin.List.listTooLong (its.toArray.size+jR.toArray.size))=true:=by
  rw[pD hsz,Bool.and_false];exact Bool.false_ne_true
 refine call_meets F.slot_list_extend ⟨_,e,rfl⟩ F.entry_list_extend (F.args_list_extend_2 _ _)
  (AutoSeq1.list_extend_list_list_0 l its.toArray n b jR.toArray n2 hlong (by rw[ii];omega) nofun) ⟨e,e2,?_⟩
 refine⟨.non,_,I.D6 (its':=its++jR) hH e (by simp) (r.append r2) ?_,rfl,q⟩;rw[cr]
 omega
abbrev Jf:R2:=λx y H Q=>∃ l b xs zs,x=.ref l/\y=.ref b/\H l=some (.lst xs)/\H b=some (.lst zs)/\xs.length+zs.length<=bn/\∀ p,H p=none->Q (.ref p) (upd H p (.lst (xs++zs)))
def Eu:cI X (binaryOp .Add) Jf:=by
 intro Y s U H x y v u Q I rx ry h;obtain⟨l,b,xs,zs,rfl,rfl,hH,hB,hz,q⟩:=h;cases rx;cases ry;obtain⟨z,its,n,r,hl,e⟩:=I.oY hH;obtain⟨z2,jR,n2,r2,hl2,e2⟩:=I.oY hB;refine PySem.P.add_list e e2 ?_ (by rw[ii,ii];omega);have ea:its.toArray++jR.toArray=(its++jR).toArray:=by simp
 rw[ea];exact⟨.ref _,_,I.Hz (t':=s.toks) (r.append r2) (by rw[cr];omega),rfl,q _ I.fresh⟩
abbrev IJ:R2:=λx y H Q=>∃ l k xs,x=.ref l/\y=.int k/\H l=some (.lst xs)/\ -(2 ^ 63)<=k/\k<2 ^ 63/\xs.length*k.toNat<=bn/\
 ∀ p,H p=none->Q (.ref p) (upd H p (.lst (sK k.toNat xs).flatten))
def len_rep (xs:List α)(k:Nat):(sK k xs).flatten.length=k*xs.length:=by
 induction k with
 |zero=>simp
 |succ k ih=>rw[replicate_succ,flatten_cons,cr,ih,Nat.succ_mul,Nat.add_comm]
def C5:cI X (binaryOp .Mult) IJ:=by
 intro Y s U H x y v u Q I rx ry h;obtain⟨l,k,xs,rfl,rfl,hH,h1,h2,hz,q⟩:=h;cases rx;obtain⟨t,rfl⟩:=ry;obtain⟨z,its,n,r,hl,e⟩:=I.oY hH;have hlen:its.toArray.size*k.toNat<=bn:=by rw[ii,<-hl];exact hz
 have hcap:¬ its.toArray.size*k.toNat>(2 ^ 63-1) / 8:=by
  have:(bn:Nat)<=(2 ^ 63-1) / 8:=by decide
  omega
 have hfit:¬ (!Builtin.List.listFitsIndex k)=true:=by
  rw[fitsIndex_both h1 h2];exact Bool.false_ne_true
 have hlong:¬ Builtin.List.listTooLong (its.toArray.size*k.toNat)=true:=by
  rw[pD hlen];exact Bool.false_ne_true
 have hnew:List.foldl (λx1 x2=>x1++x2) #[] (sK (if its.toArray.isEmpty=true then 0 else k.toNat) its.toArray)=(sK k.toNat its).flatten.toArray:=by
  have f0:∀ m:Nat,List.foldl (λx1 x2=>x1++x2) #[] (sK m its.toArray)=(sK m its).flatten.toArray:=λm=>by
   have:=foldl_rep its m [];rw[nil_append]at this;exact this
  rw[f0];cases its with
  |nil=>simp
  |cons a r'=>rw[if_neg (by simp)]
 refine wpAny_binaryOp_repeat_ref (T:="list") (U:="int") (by decide) ⟨_,e,rfl⟩ (λs'=>typeIs_int s' k t) noFill_list_mul F.fills_int_mul F.slot_int_rmul repeat_list F.slot_int_index.lookup
  (call_meets F.slot_int_rmul (typeIs_int s k t) F.entry_int_rmul (F.args_int_rmul_2 _ _) (int___rmul___int_list k t l its.toArray n)
   ⟨e,rfl,⟨_,e,rfl⟩,call_meets F.slot_list_mul ⟨_,e,rfl⟩ F.entry_list_mul (F.args_list_mul_2 _ _) (AutoListH.list___mul___list_int_3 l its.toArray n k t hfit hcap hlong) ⟨e,?_⟩⟩)
 rw[hnew];exact⟨.ref _,_,I.Hz (t':=s.toks) (r.rep k.toNat) (by rw[len_rep,Nat.mul_comm];exact hz),rfl,q _ I.fresh⟩
end
section
variable {prog:Program}{w:World}{A:Around}{E:K1}{s:Shared}
set_option maxRecDepth 100000 in
end
section
variable {X:Cx}
end
variable {o:Option V}
section
variable {κ:Type} [DecidableEq κ]
abbrev iP (kvs:List (κ×V))(k:κ):Option V:=(kvs.find? λkv=>decide (kv.1=k)).map (·.2)
abbrev putK (kvs:List (κ×V))(k:κ)(v:V):List (κ×V):=
 if(kvs.any λkv=>decide (kv.1=k))=true then kvs.map (λkv=>if kv.1=k then(kv.1,v) else kv) else kvs++[(k,v)]
def j0 {p:κ×V}{r:List (κ×V)}{k:κ}(e:p.1=k):iP (p::r) k=some p.2:=by simp[iP,find?_cons,e]
def jo {p:κ×V}{r:List (κ×V)}{k:κ}(e:¬ p.1=k):iP (p::r) k=iP r k:=by simp[iP,find?_cons,e]
def pX (k:κ):∀ kvs:List (κ×V),(kvs.any λkv=>decide (kv.1=k))=(iP kvs k).isSome
 | []=>rfl
 |p::r=>by
  rw[any_cons]
  by_cases e:p.1=k
  .simp only[j0 e,decide_eq_true e,Bool.true_or,Option.isSome_some]
  .rw[jo e,decide_eq_false e,Bool.false_or];exact pX k r
def dD (kvs:List (κ×V))(k:κ)(v:V):(putK kvs k v).length<=kvs.length+1:=by
 unfold putK
 split
 .rw[ci];omega
 .rw[cr,length_cons,length_nil];omega
def cG.t6 {u:Option Value}(r:cG o u):o.isSome=u.isSome:=by
 cases o with
 |none=>cases u with
  |none=>rfl
  |some _=>exact(show False from r).elim
 |some _=>cases u with
  |none=>exact(show False from r).elim
  |some _=>rfl
def KV.val {kvs:List (κ×V)}{vs:List (κ×Value)}(r:KV kvs vs)(k:κ):cG (iP kvs k) (valueAt vs k):=by
 unfold KV at r
 induction r with
 |nil=>exact True.intro
 | @cons p q ps qs h t ih=>
  obtain⟨h1,h2⟩:=h
  by_cases e:p.1=k
  .have e':q.1=k:=h1.symm.trans e;have b:valueAt (q::qs) k=some q.2:=by simp[valueAt,find?_cons,e']
   rw[j0 e,b];exact h2
  .have e':¬ q.1=k:=λz=>e (h1.trans z)
   have b:valueAt (q::qs) k=valueAt qs k:=by simp[valueAt,find?_cons,e']
   rw[jo e,b];exact ih
def KV.any {kvs:List (κ×V)}{vs:List (κ×Value)}(r:KV kvs vs)(k:κ):(kvs.any λkv=>decide (kv.1=k))=vs.any λkv=>decide (kv.1=k):=by
 unfold KV at r
 induction r with
 |nil=>rfl
 |cons h t ih=>rw[any_cons,any_cons,ih,h.1]
def KV.DP {kvs:List (κ×V)}{vs:List (κ×Value)}(r:KV kvs vs)(k:κ)(ry:RelV y u):
  KV (kvs.map λkv=>if kv.1=k then(kv.1,y) else kv) (vs.map λkv=>if kv.1=k then(kv.1,u) else kv):=by
 unfold KV at r⊢
 induction r with
 |nil=>exact .nil
 | @cons p q ps qs h t ih=>
  rw[map_cons,map_cons];refine .cons ?_ ih;obtain⟨h1,h2⟩:=h
  by_cases e:p.1=k
  .rw[if_pos e,if_pos (h1.symm.trans e)];exact⟨h1,ry⟩
  .rw[if_neg e,if_neg (λz=>e (h1.trans z))];exact⟨h1,h2⟩
def KV.put {kvs:List (κ×V)}{vs:List (κ×Value)}(r:KV kvs vs)(k:κ)(ry:RelV y u):KV (putK kvs k y) (stored vs k u):=by
 unfold putK stored;rw[r.any k]
 by_cases e:(vs.any λkv=>decide (kv.1=k))=true
 .rw[if_pos e,if_pos e];exact r.DP k ry
 .rw[if_neg e,if_neg e];exact Paired.snoc r ⟨rfl,ry⟩
def KV.length {kvs:List (κ×V)}{vs:List (κ×Value)}(r:KV kvs vs):kvs.length=vs.length:=Paired.length r
end
variable {P:Program}{w:World}
def nU {k:Key}(r:RelV (kV k) u):(ao P w).is k u=true:=by
 cases k with
 |inl i=>obtain⟨t,e⟩:=(show ∃ t,u=Value.int i t from r);subst e;exact qc P w i t
 |inr x=>obtain⟨t,e⟩:=(show ∃ t,u=Value.str x t from r);subst e;exact qb P w x t
def lD {P:Program}{w:World}:∀ {ks:List Key}{us:List Value},Vals (ks.map kV) us->ItemsAre (ao P w) ks us
 | [],_,r=>by rw[List.map_nil]at r;cases r;exact .nil
 |k::ks,_,r=>by
  rw[map_cons]at r;cases r with
  |cons h t=>exact .cons (nU h) (lD t)
@[reducible]def KT (H:Hp):List (List Key×V)->List (List Key×Addr×Value)->Prop:=Paired λp q=>p.1=q.1/\H q.2.1=some (.tup (p.1.map kV))/\RelV p.2 q.2.2
variable {xs:List (List Key×Addr×Value)}{kvs:List (List Key×V)}
def KT.val (r:KT H kvs xs)(k:List Key):cG (iP kvs k) ((atKey xs k).map (·.2)):=by
 induction r with
 |nil=>exact True.intro
 | @cons p q ps qs h t ih=>
  obtain⟨h1,_,h2⟩:=h
  by_cases e:p.1=k
  .have e':q.1=k:=h1.symm.trans e;have b:atKey (q::qs) k=some q.2:=by simp[atKey,find?_cons,e']
   rw[j0 e,b];exact h2
  .have e':¬ q.1=k:=λz=>e (h1.trans z)
   have b:atKey (q::qs) k=atKey qs k:=by simp[atKey,find?_cons,e']
   rw[jo e,b];exact ih
def KT.DP (r:KT H kvs xs)(k:List Key)(ry:RelV y u):
  KT H (kvs.map λkv=>if kv.1=k then(kv.1,y) else kv) (xs.map (putAt k u)):=by
 induction r with
 |nil=>exact .nil
 | @cons p q ps qs h t ih=>
  rw[map_cons,map_cons];refine .cons ?_ ih;obtain⟨h1,h2,h3⟩:=h;unfold putAt
  by_cases e:p.1=k
  .rw[if_pos e,if_pos (h1.symm.trans e)];exact⟨h1,h2,ry⟩
  .rw[if_neg e,if_neg (λz=>e (h1.trans z))];exact⟨h1,h2,h3⟩
def KT.put (r:KT H kvs xs)(k:List Key){b:Addr}(hb:H b=some (.tup (k.map kV)))(ry:RelV y u):
  KT H (putK kvs k y) (storedH xs k b u):=by
 have e:(kvs.any λkv=>decide (kv.1=k))=(atKey xs k).isSome:=by
  rw[pX,(r.val k).t6,Option.isSome_map]
 unfold putK storedH;rw[e]
 by_cases q:(atKey xs k).isSome=true
 .rw[if_pos q,if_pos q];exact r.DP k ry
 .rw[if_neg q,if_neg q];exact Paired.snoc r ⟨rfl,hb,ry⟩
variable {H':Hp}
def KT.keeps (r:KT H kvs xs)(ht:∀ b ys,H b=some (.tup ys)->H' b=some (.tup ys)):KT H' kvs xs:=
 Paired.DF r λ_ _ z=>⟨z.1,ht _ _ z.2.1,z.2.2⟩
section
variable {P:Program}{w:World}{H:Hp}{h:Heap}{a:Addr}
def Cy {u:HO}(ok:fw P w H h)(e:Rd H a u):au P w H h a u:=e.ok ok
def ij {kvs:List (Key×V)}(ok:fw P w H h)(e:Rd H a (.dK kvs)):kvs.length<=bn/\(a ==sysModules)=false/\∃ vs,KV kvs vs/\h.DictOf (ao P w) a vs:=
 show au P w H h a (.dK kvs) from Cy ok e
def CD {kvs:List (Key×V)}(ok:fw P w H h)(e:H a=some (.dK kvs)):kvs.length<=bn/\(a ==sysModules)=false/\∃ vs,KV kvs vs/\h.DictOf (ao P w) a vs:=ij ok (.inl e)
def qE {ks:List Key}(ok:fw P w H h)(e:H a=some (.tup (ks.map kV))):(tupleKind (ao P w)).is h ks a:=by
 obtain⟨_,its,r,o,h1,h2,n,h3⟩:=(show au P w H h a (.tup (ks.map kV)) from ok a _ e);exact⟨o,its.toArray,n,h1,h2,h3,by simpa using lD r⟩
def xF (ok:fw P w H h)(e:Rd H a (.dT kvs)):kvs.length<=bn/\(a ==sysModules)=false/\
  ∃ xs,KT H kvs xs/\h.DictOfH (tupleKind (ao P w)) a xs:=by
 obtain⟨z,y,xs,r,o,es,ep,h1,h2,h3,h4,h5⟩:=(show au P w H h a (.dT kvs) from Cy ok e);refine⟨z,y,xs,r,o,es,ep,h1,h2,h3,h4,λx hx=>?_,h5⟩;have all:∀ {l:List (List Key×V)}{m:List (List Key×Addr×Value)},KT H l m->∀ x ∈ m,(tupleKind (ao P w)).is h x.1 x.2.1:=by
  intro l m q
  induction q with
  |nil=>intro x hx;exact nomatch hx
  | @cons p q ps qs hq t ih=>
   intro x hx;rcases lw.mp hx with e|hx
   .subst e;exact qE ok (by rw[<-hq.1];exact hq.2.1)
   .exact ih x hx
 exact all r x hx
def G8 (ok:fw P w H h)(e:H a=some (.dT kvs)):kvs.length<=bn/\(a ==sysModules)=false/\
  ∃ xs,KT H kvs xs/\h.DictOfH (tupleKind (ao P w)) a xs:=xF ok (.inl e)
end
abbrev Ef (H:Hp)(a:Addr)(y:V)(r:Option V):Prop:=
 (∃ kvs k,Rd H a (.dK kvs)/\y=kV k/\r=iP kvs k)\/∃ kvs k b,Rd H a (.dT kvs)/\y=.ref b/\H b=some (.tup (k.map kV))/\r=iP kvs k
abbrev FJ (H:Hp)(a:Addr)(y v:V)(H':Hp):Prop:=
 (∃ kvs k,H a=some (.dK kvs)/\y=kV k/\kvs.length<bn/\H'=upd H a (.dK (putK kvs k v)))\/
 ∃ kvs k b,H a=some (.dT kvs)/\y=.ref b/\H b=some (.tup (k.map kV))/\kvs.length<bn/\H'=upd H a (.dT (putK kvs k v))
section
variable {X:Cx}{Y:K2}{U:St}{H:Hp}{s:Shared}{a:Addr}{y v:V}{u r:Value}{o:Option V}{A:Around}{E:K1}
def Inv.big (I:Inv X Y U H s):sysModules<s.heap.objs.size:=by
 have h:mainGlobals<s.heap.objs.size:=(I.mod.glob.keeps I.bk).lt;exact Nat.lt_trans (by decide) h
def uT {Q:K1}(hu:A.units+1<cLine)(I:Inv X Y U H s)(g:Ef H a y (some v))(ry:RelV y u)(h:∀ w' s',Inv X Y U H s'->RelV v w'->Q w' s'):
  wpAny (model X.prog X.w) A (getItem (.ref a) u) Q E s:=by
 rcases g with⟨kvs,k,e,ey,l⟩|⟨kvs,k,b,e,ey,eb,l⟩
 .subst ey;obtain⟨z,hd,vs,rel,dd⟩:=ij I.hok e;obtain⟨w',hw,rw'⟩:=cG.some_of (v:=v) (o:=valueAt vs k) (by rw[l];exact rel.val k);exact wpAny_getItem_of (nU ry) dd.mapOf hw (h w' _ (I.tok _) rw')
 .subst ey;cases(show u=Value.ref b from ry);obtain⟨z,hd,xs,rel,dd⟩:=xF I.hok e;obtain⟨w',hw,rw'⟩:=cG.some_of (v:=v) (o:=(atKey xs k).map (·.2)) (by rw[l];exact rel.val k);obtain⟨p,hp,hp2⟩:=nb.mp hw;refine wpAny_getItem_heap (tupleKind_room_in1 hu) (qE I.hok eb) dd hp ?_;rw[hp2];exact h w' _ (I.tok _) rw'
def mr {h':Heap}{t':Nat}{ob:HO}(I:Inv X Y U H s)(mu:FE (H a))(hs:Heap.SameBut a s.heap h')(he:∃ q,h'.get? a=some q) (new:au X.prog X.w (upd H a ob) h' a ob):
  Inv X Y U (upd H a ob) { s with heap:=h',toks:=t' }:=
 I.write (x:=a) (e:=a) mu (.inl rfl) (λb q hb z=>(hs.2 b hb).trans z) he new
def rF {h':Heap}{kvs:List (Key×V)}{vs:List (Key×Value)}(z:kvs.length<=bn)(hd:(a ==sysModules)=false)(rel:KV kvs vs)(dd:h'.DictOf (ao P w) a vs):
  au P w H' h' a (.dK kvs):=⟨z,hd,vs,rel,dd⟩
def ui {Q:KZ}(hu:A.units+1<cLine)(I:Inv X Y U H s)(g:FJ H a y v H')(ry:RelV y u)(rv:RelV v r)(h:∀ s',Inv X Y U H' s'->Q () s'):
  wpAny (model X.prog X.w) A (setItem (.ref a) u r) Q E s:=by
 rcases g with⟨kvs,k,e,ey,l,eH⟩|⟨kvs,k,b,e,ey,eb,l,eH⟩
 .subst ey eH;obtain⟨z,hd,vs,rel,dd⟩:=CD I.hok e;have hz:vs.length<=bn:=by rw[<-rel.length];exact z
  have hl:(putK kvs k v).length<=bn:=by have:=dD kvs k v;omega
  refine wpAny_setItem_pairs (hsz:=hz) (nU ry) dd λh' dd' hs=>h _ ?_
  have he:∃ q,h'.get? a=some q:=let⟨q,_,_,hq,_⟩:=dd';⟨q,hq⟩;exact mr I (by rw[e];exact True.intro) hs he (rF hl hd (rel.put k rv) dd')
 .subst ey eH;cases(show u=Value.ref b from ry);obtain⟨z,hd,xs,rel,dd⟩:=G8 I.hok e;have hz:xs.length<=bn:=by rw[<-Paired.length rel];exact z
  have hl:(putK kvs k v).length<=bn:=by have:=dD kvs k v;omega
  refine wpAny_setItem_heap (hsz:=hz) (tupleKind_room_in1 hu) (qE I.hok eb) dd λh' dd' hs=>h _ ?_
  obtain⟨q,es,ep,hq,h2,h3,h4,_,h5⟩:=dd';refine mr I (by rw[e];exact True.intro) hs ⟨q,hq⟩ ⟨hl,hd,_,(rel.put k eb rv).keeps λc ys ec=>?_,q,es,ep,hq,h2,h3,h4,h5⟩;rw[af (HN ec e (λz=>nomatch z))];exact ec
end
section
variable {X:Cx}{Y:K2}{U:St}{H:Hp}{s:Shared}{a:Addr}{kvs:List (Key×V)}{k:Key}{u:Value}{A:Around}{E:K1}
end
def ou {X:Cx}{a:Addr}(I:Inv X Y U H s)(g:Ef H a y o):s.TypeIs (.ref a) "dict":=by
 rcases g with⟨kvs,k,e,_,_⟩|⟨kvs,k,b,e,_,_,_⟩
 .obtain⟨_,_,vs,_,dd⟩:=ij I.hok e;exact dd.typeIs
 .obtain⟨_,_,xs,_,dd⟩:=xF I.hok e;exact dd.typeIs
section
variable {X:Cx}{o i e value:Expr}{pos pos' tpos:Pos}{td ty tv:TE}
end
def xh (h:Heap)(hb:sysModules<h.objs.size):au P w H (h.push { cls:=.type "dict",data:=.dict #[] }) h.objs.size (.dK []):=
 ⟨Nat.zero_le _,beq_eq_false_iff_ne.mpr (Ne.symm (pi hb)),[],.nil,Heap.DictOf.new h⟩
section
variable {X:Cx}{pos:Pos}
end
section
variable {X:Cx}{Y:K2}{U:St}{H:Hp}{s:Shared}{a:Addr}{y d:V}{u r:Value}{o:Option V}{A:Around}{E:K1}
end
section
variable {X:Cx}{o e f:Expr}{apos cpos:Pos}{td ty tx:TE}
end
section
variable {X:Cx}{Y:K2}{U:St}{H:Hp}{s:Shared}{a:Addr}{kvs:List (Key×V)}{A:Around}{E:K1}
end
section
variable {X:Cx}{Y:K2}{U:St}{H:Hp}{s:Shared}{a:Addr}{y:V}{u:Value}{A:Around}{E:K1}
end
end L2
namespace Att
open PySem PySem.W PySem.Calls PyProof.Rows
variable {P:Params}
def iL {h:Heap}:∀ (ns:List Int) (vs:List Value),WellAll P h vs (ns.map WData.int)->IntsAre vs ns:=by
 intro ns
 induction ns with
 |nil=>
  intro vs w;rw[List.map_nil]at w;cases w;exact .nil
 |cons n ns ih=>
  intro vs w;rw[map_cons]at w;cases w with
  |cons a b=>
   cases a;exact .cons _ _ (ih _ b)
variable {l:OpenLaw}
def uU {n:Nat}(hn:l.most=some n){h:Heap}{args:List WData}{vals:List Value}
  (hpre:l.row.toRowW.claim.pre args=true) (hwl:WellAll P h vals args):
  ∃ a vs ns,vals=[Value.ref a]/\args=[WData.list (ns.map WData.int)]/\h.get? a=some { cls:=.type "list",data:=.seq vs.toArray }/\IntsAre vs ns/\ns.length<=n:=by
 have hsh:WShape.hasAll [] args [.list .int]=true:=(pre_splitW hpre).1;have hc:l.pre.holds [] { args:=args }=true:=(pre_splitW hpre).2;obtain⟨d,r,rfl,h1,h2⟩:=hasAllW_cons hsh;obtain rfl:=hasAllW_nil h2;obtain⟨xs,rfl,h3⟩:=hasW_list h1;obtain⟨ns,rfl⟩:=items_int h3;have hlen:ns.length<=n:=by
  unfold OpenLaw.pre at hc;have h4:(WTm.not (.lt (.lit (.int (n:Int))) (.len (.arg 0)))).holds [] { args:=[.list (ns.map .int)] }=true:=by
   have h4:=(holds_andW hc).1;rw[hn]at h4;exact h4
  have h5:=condW_of h4 (w_not (w_lt w_lit (w_len_list (w_arg rfl))));rw[ci]at h5;refine Nat.le_of_not_lt λq=>?_
  have q':(n:Int)<((ns.length:Nat):Int):=by omega
  first
   |(rw[decide_eq_true q']at h5;exact absurd h5 (by decide))
   |(simp at h5;omega)
 cases hwl with
 |cons w1 w2=>
  cases w2;cases w1 with
  |list ho hall=>exact⟨_,_,ns,rfl,rfl,ho,iL ns _ hall,hlen⟩
def uF (l:OpenLaw)(args:List WData):l.row.toRowW.claim.post args (.bool true) args=true:=
 postW_of (r:=l.row.toRowW) (X:=(true ==true))
  (show WShape.has [] (.bool true) .bool=true by first|rfl|decide|simp[WShape.has,WShape.arms,WShape.armsAll])
  (show(WTm.eq .res (.lit (.bool true))).value [] { args:=args,res:=some (.bool true),after:=args }=some (.bool (true ==true)) from w_eq_bool (w_res rfl) w_lit) rfl
def pZ {n:Nat}{q:Program}{loose:List Str}{XP:(Str->Option Value)->Heap->Prop}{YP:World->Heap->Prop}{d:DefRec}
  (hn:l.most=some n) (hdf:d.params.defaults=[])
  (call:∀ (w:World) (s₀ s₁:Shared) (mg mb:K3) (fa:Addr) (o:Obj) (pm cd doc:Value) (a:Addr) (vs:List Value) (ns:List Int),
   Ground q loose [] XP w s₀ mg mb s₁.heap->YP w s₁.heap->
   s₁.heap.get? fa=some o->o.data=.func (docDef d.name d.params d.body d.scope pm cd doc)->s₁.heap.CodeRec cd d.name->mg d.name=some (.ref fa)->
   s₁.heap.get? a=some { cls:=.type "list",data:=.seq vs.toArray }->IntsAre vs ns->ns.length<=n->s₁.gens=#[]->
   codeAny (model l.prog w) callerA (.call (.ref fa) ⟨[.ref a],[]⟩) (λr s'=>r=.ok (.ret (.bool true))/\OldK s₁.heap s'.heap/\s'.os=s₁.os/\AllBare s'.gens) s₁):
  WalkO q loose XP YP l.row.toRowW d [] (λf vs=>PySem.call f vs):=by
 intro w s₀ s₁ mg mb G Y fa o pm cd doc dV kV ho hd hcd hD hmg hg args vals as hpre hlay hrd hwl hlo;obtain rfl:dV=.none:=Dflts.none hD hdf;obtain rfl:kV=.none:=Dflts.noKw hD;obtain⟨a,vs,ns,rfl,rfl,hobj,hints,hlen⟩:=uU hn hpre hwl;refine enter_call (codeAny_mono (call w s₀ s₁ mg mb fa o pm cd doc a vs ns G Y ho (fd_plain hd) hcd hmg hobj hints hlen hg) λr s' hq=>?_);obtain⟨rfl,h2,h3,h4⟩:=hq;exact⟨.inl ⟨.bool true,.bool true,[],rfl,λ_=>rfl,.bool true,uF l _,λ_=>⟨List.Pairwise.nil,λ_ hm=>(nomatch hm)⟩⟩,h2,h3,h4⟩
section
variable {prog:Program}{w:World}{A:Around}{E:K1}{s:Shared}{K:Frag}
end
end Att
namespace L2
open PySem PySem.Spec PyProof.Rows
def lE:∀ {vs:List Value}{ns:List Int},IntsAre vs ns->Vals (ns.map V.int) vs
 |_,_,.nil=>.nil
 |_,_,.cons n t h=>.cons ⟨t,rfl⟩ (lE h)
abbrev ET (H:Hp):Prop:=∀ b,H b=none\/∃ o xs,H b=some (.iJ o (.lst xs))
def wC {P:Program}{w:World}{K:W.Frag}{mg mb:K3}{CX:tV}{k:Nat}{fa a:Addr}{fd:FuncData}{x:Str}{sp:Sp}{s₁:Shared}{vs:List Value}{ns:List Int}
  (KX:K.In s₁.heap) (hns:s₁.heap.Ns mainGlobals mg) (hb:s₁.heap.Ns builtinsNs mb) (hbb:∀ x:Str,x≠"__name__"->mb x=bootBuiltins x) (hlim:s₁.heap.NoLimit) (hg:s₁.gens=#[])
  (ha:s₁.heap.get? a=some { cls:=.type "list",data:=.seq vs.toArray }) (hi:IntsAre vs ns) (hl:ns.length<=bn) (hr:bB k callerA)
  (F:∀ base:Heap,K.In base->base.Ns mainGlobals mg->cz true P w K mg base CX k fa fd [x] sp) (hbind:∀ (s:Shared) (u:Value),BindsTo s fd ⟨[u],[]⟩ [(x,u)])
  (hsp:∀ H:Hp,ET H->ba K H a (ns.map V.int)->sp [.ref a] H (λv _=>v=.bl true) λ_ _=>False)
  (hCX:∀ H e s',CX [] H s₁ (λ_ _=>False) e s'->False):
  codeAny (model P w) callerA (.call (.ref fa) ⟨[.ref a],[]⟩) (λr s'=>r=.ok (.ret (.bool true))/\OldK s₁.heap s'.heap/\s'.os=s₁.os/\AllBare s'.gens) s₁:=by
 have rv:=lE hi;have lenV:=hi.length;have core:∀ H:Hp,ET H->ba K H a (ns.map V.int)->fw P w H s₁.heap->(∀ b,H b≠none->b=a)->(H a≠none->K.lookup a=none)->
   codeAny (model P w) callerA (.call (.ref fa) ⟨[.ref a],[]⟩) (λr s'=>r=.ok (.ret (.bool true))/\OldK s₁.heap s'.heap/\s'.os=s₁.os/\AllBare s'.gens) s₁:=by
  intro H hO hS hok hA hK;have base_of:∀ {b:Addr}{o:Obj},s₁.heap.get? b=some o->H b=none->(mN s₁.heap H).get? b=some o:=λe n=>vX e n
  have noA:∀ {b:Addr}{o:Obj}{es:Array DictEntry}{ep:Nat},s₁.heap.get? b=some o->o.data=.dict es ep->H b=none:=λ{b o es ep} e d=>by
   cases q:H b with
   |none=>rfl
   |some u=>
    have e':b=a:=hA b (by rw[q];simp);subst e';rw[ha]at e;cases e;have d':Data.seq vs.toArray _=Data.dict es ep:=d;cases d'
  have nsK:∀ {b:Addr}{m:K3},s₁.heap.Ns b m->(mN s₁.heap H).Ns b m:=λ{b m} ⟨o,es,ep,e,d,r⟩=>⟨o,es,ep,base_of e (noA e d),d,r⟩
  have hKb:K.In (mN s₁.heap H):=λb o e=>base_of (KX b o e) (by
   cases q:H b with
   |none=>rfl
   |some u=>
    have e':b=a:=hA b (by rw[q];simp);subst e';rw[hK (by rw[q];simp)]at e;cases e)
  have hM:Mod K mg (mN s₁.heap H):=⟨hKb,nsK hns,⟨mb,nsK hb,hbb⟩,let⟨mc,h1,h2⟩:=hlim;⟨mc,nsK h1,h2⟩⟩;have e0:qS P w K mg (mN s₁.heap H) callerA [] s₁ H:=⟨rfl,hM,λb o e=>zg e,Nat.le_of_eq (uI _ _),trivial,λb hb=>absurd (show b ∈ ([]:List Addr) from hb) (by simp),hok,.of_eq hg⟩;refine codeAny_mono ((F _ hKb (nsK hns)).run callerA [] s₁ H ⟨[.ref a],[]⟩ [.ref a] [.ref a] _ _ hr rfl e0 (hbind s₁ (.ref a)) (.cons rfl .nil) (hsp H hO hS)) λr s' h=>?_
  cases r with
  |error e=>exact(hCX H e s' h).elim
  |ok fl=>
   cases fl with
   |next=>exact False.elim h
   |brk=>exact False.elim h
   |cont=>exact False.elim h
   |ret u=>
    obtain⟨v,H',os,bare,un,hok',r',q⟩:=h;have q':v=.bl true:=q;subst q';obtain rfl:u=Value.bool true:=r';refine⟨rfl,OldK.of_keep λb o e=>?_,os,bare⟩;cases q:H b with
    |none=>exact un.keep b o e q (by intro z;exact absurd (show b ∈ ([]:List Addr) from z) (by simp)) (by simp)
    |some u=>
     rcases hO b with z|⟨ob,xs,z⟩
     .rw[q]at z;cases z
     .have z2:=un.frzs b (.iJ ob _) True.intro z;obtain⟨e1,_⟩:=hok b _ z;obtain⟨e2,_⟩:=hok' b _ z2;rw[e]at e1;cases e1;exact e2
 cases hk:K.lookup a with
 |some o=>
  have e:=KX a o hk;rw[ha]at e;cases e;refine core (λ_=>none) (λ_=>.inl rfl) (.inr ⟨_,vs.toArray,_,hk,rfl,rfl,rfl,by rw[ii,lenV];exact hl,by simpa using rv⟩) (λb u z=>by have z':(none:Option HO)=some u:=z;cases z') (λb z=>absurd rfl z) λz=>absurd rfl z
 |none=>
  refine core (λb=>if b=a then some (.iJ { cls:=.type "list",data:=.seq vs.toArray } (.lst (ns.map V.int))) else none) (λb=>?_) (.inl (.inr ⟨{ cls:=.type "list",data:=.seq vs.toArray },if_pos rfl⟩)) (λb u z=>?_) (λb z=>?_) λ_=>hk
  .by_cases hb:b=a
   .exact .inr ⟨_,_,if_pos hb⟩
   .exact .inl (if_neg hb)
  .by_cases hb:b=a
   .have z':=(if_pos hb).symm.trans z;cases z';subst hb;exact⟨ha,by rw[ci];exact hl,vs,_,rv,ha⟩
   .have z':=(if_neg hb).symm.trans z;cases z'
  .by_cases hb:b=a
   .exact hb
   .exact absurd (if_neg hb) z
def AG {l:W.OpenLaw}{n k:Nat}{q:Program}{loose:List Str}{XP:(Str->Option Value)->Heap->Prop}{YP:World->Heap->Prop}{d:DefRec}{K:Params->W.Frag}{CX:World->tV}{sp:World->Sp}{x:Str}
  (hn:l.most=some n) (hn2:n<=bn) (hdf:d.params.defaults=[]) (hr:bB k callerA)
  (hY:∀ (w:World) (h:Heap),YP w h->(K w.params).In h)
  (F:∀ (w:World) (mg:K3) (fa:Addr) (h:Heap),(K w.params).In h->h.Ns mainGlobals mg->mg d.name=some (.ref fa)->
   ∃ fd:FuncData,(∀ (s:Shared) (u:Value),BindsTo s fd ⟨[u],[]⟩ [(x,u)])/\
    ∀ base:Heap,(K w.params).In base->base.Ns mainGlobals mg->cz true l.prog w (K w.params) mg base (CX w) k fa fd [x] (sp w))
  (hsp:∀ (w:World) (H:Hp) (a:Addr) (ns:List Int),ns.length<=n->ET H->ba (K w.params) H a (ns.map V.int)->sp w [.ref a] H (λv _=>v=.bl true) λ_ _=>False)
  (hCX:∀ (w:World) (H:Hp) (s:Shared) (e:Value) (s':Shared),CX w [] H s (λ_ _=>False) e s'->False):
  W.WalkO q loose XP YP l.row.toRowW d [] (λf vs=>PySem.call f vs):=by
 refine Att.pZ hn hdf λw s₀ s₁ mg mb fa o pm cd doc a vs ns G Y ho hd hcd hmg hobj hints hlen hg=>?_
 have KX:=hY w _ Y;obtain⟨fd,hb,hF⟩:=F w mg fa _ KX G.T.g hmg;exact wC KX G.T.g G.T.b G.T.builtins G.T.nolimit hg hobj hints (Nat.le_trans hlen hn2) hr hF hb (λH hO hS=>hsp w H a ns hlen hO hS) λH e s'=>hCX w H s₁ e s'
section
variable {P:Program}{w:World}{K:W.Frag}{mg:K3}{base:Heap}
end
def cH {n:Nat}(h:n<=1000):n<bn:=Nat.lt_of_le_of_lt h (by decide)
section
variable {X:Cx}
end
end L2
namespace L2
open PySem PySem.Spec PySem.W PyProof.Rows PySem.Builtin PySem.Builtin.ObjectAttr
variable {rs:List Addr}
section
variable {prog:Program}{w:World}{A:Around}{E:K1}{s:Shared}{K:W.Frag}{x C:Addr}{ox od:Obj}{name:Str}{expr:Bool}{v:Value}{Q:K1}
def nY:builtinKind "BaseException.__getattribute__"=some .slot:=by decide+kernel
def lp:splitId "BaseException.__getattribute__"=some ("BaseException","__getattribute__"):=by decide+kernel
def zf (X:K.In s.heap)(I:W.InstAt s.heap x ox C (some od))(hga:W.findIn K (.ref C) "__getattribute__"=some (some (.builtin "BaseException.__getattribute__"))) (hgn:W.findIn K (.ref C) "__getattr__"=some none)
  (hb:W.mroIn K C (.type "BaseException")=some true) (hf:W.findObj K C (some od) name=some (.value v)) (hh:W.handedIn v=true) (h:Q v { s with toks:=s.toks+1 }):
  wpAny (model prog w) A (getAttr (.ref x) name expr) Q E s:=by
 obtain⟨hp,g,d,t,os⟩:=s;have L0:=I.type (M:=model prog w);have L1:=looks_findIn (M:=model prog w) X hga;have L2':=looks_findIn (M:=model prog w) X hgn;have L3:=looks_find (M:=model prog w) X I hf;have L4:Looks (model prog w) hp (isInstance (.ref x) (.type "BaseException")) true:=I.type.andThen (looks_mroIn X hb);unfold getAttr getAttrBy;refine ad (wpAny_mkText (bd (ad (L0.at (ad (L1.at ?_))))));have e1:(Value.builtin "BaseException.__getattribute__" ==Value.builtin "object.__getattribute__")=false:=by decide+kernel
 dsimp only;rw[e1,Bool.and_false];show wpAny _ _ (getAttrByItsOwn _ _ _ _ _ _) _ _ _;unfold getAttrByItsOwn hookBefore;refine ad (L2'.at ?_);refine ad (wpAny_attempt (bd ?_));have e2:(expr&&onTheHeap (Value.builtin "BaseException.__getattribute__"))=false:=by cases expr<;>rfl
 unfold callGetattribute;rw[e2];show wpAny _ _ (boundAndCalled _ _ _) _ _ _;unfold boundAndCalled;rw[PySem.F.attr_ValueError.ga.bind];refine ad (am (wpAny_call (codeAny_call_builtin PySem.F.attr_ValueError.ga.plain PySem.F.entry_bexc_ga ?_)));refine @check_slot (model prog w) _ _ _ "BaseException.__getattribute__" "BaseException" "__getattribute__" (.ref x) [.str name t] [] _ nY lp L4 (PySem.F.args_bexc_ga (.ref x) (.str name t)) ?_;unfold Builtin.«object.__getattribute__»;refine ad (am (ad (am (ad (L0.at (ad (L3.at ?_)))))));refine am ?_;show wpAny _ _ (handedOut v) _ _ _;rw[handedOut_of hh];exact am h
abbrev xu:Value->Bool
 | .ref _=>true
 |_=>false
abbrev bI:List Value:=[.type "ValueError",.type "Exception",.type "BaseException",.type "object"]
abbrev cX (l:List Value):Bool:=l.dropWhile xu ==bI
def cO:∀ {l:List Value},cX l=true->∃ rs:List Addr,l=rs.map Value.ref++bI
 | [],e=>by cases e
 |c::r,e=>by
  by_cases h:xu c=true
  .have e':cX r=true:=by
    unfold cX at e⊢;rw[List.dropWhile_cons_of_pos h]at e;exact e
   obtain⟨rs,q⟩:=cO e';cases c with
   |ref a=>exact⟨a::rs,by rw[q];rfl⟩
   |_=>cases h
  .unfold cX at e;rw[List.dropWhile_cons_of_neg h]at e;exact⟨[],beq_iff_eq.mp e⟩
def jP (self:Value):∀ rs:List Addr,refuseLoop self "__setattr__" (rs.map Value.ref++bI)=pure ()
 | []=>PySem.F.store_ValueError.passes self
 |a::r=>by rw[map_cons,List.cons_append,refuseLoop_ref];exact jP self r
structure ck (K:W.Frag) (C:Addr):Prop where
 mt:W.typeIn K (.ref C)=some (.type "type")
 ov:(W.clsIn K C).any (λcd=>cX cd.mro)=true
 hd:W.hasDictIn K C=true
 ga:W.findIn K (.ref C) "__getattribute__"=some (some (.builtin "BaseException.__getattribute__"))
 gn:W.findIn K (.ref C) "__getattr__"=some none
 sa:W.findIn K (.ref C) "__setattr__"=some (some (.builtin "object.__setattr__"))
def ck.mro (c:ck K C):∃ (cd:ClassData) (rs:List Addr),W.clsIn K C=some cd/\cd.mro=rs.map Value.ref++bI:=by
 obtain⟨cd,h1,h2⟩:=W.any_some c.ov;obtain⟨rs,h3⟩:=cO h2;exact⟨cd,rs,h1,h3⟩
def nM (h:bI.contains v=true):(rs.map Value.ref++bI).contains v=true:=by
 rw[List.contains_eq_mem,decide_eq_true_eq]at h⊢;exact im _ h
def tf:(rs.map Value.ref++bI).isEmpty=false:=by cases rs<;>rfl
def ck.sub (c:ck K C)(h:bI.contains v=true):W.mroIn K C v=some true:=by
 obtain⟨cd,rs,h1,h2⟩:=c.mro;unfold W.mroIn;rw[h1,Option.bind_some,h2,if_neg (by rw[tf];decide),nM h]
variable {R:Result->Shared->Prop}
def nI {tk:Tok}{odo:Option Obj}(X:K.In s.heap)(I:W.InstAt s.heap x ox C odo)(c:ck K C)(ht:W.findIn K (.ref C) name=some none)
  (h:wpAny (model prog w) A.in1 (storeInOwnDict (.ref x) (.ref C) (.str name tk) name v false)
   (λfin s'=>match fin with| .done f=>R (.ok f) s'| .again c'=>c'.quiet=true/\codeAny (model prog w) A c' R s') (λe s'=>R (.error e) s') s):
  codeAny (model prog w) A (.call (.builtin "object.__setattr__") ⟨[.ref x,.str name tk,v],[]⟩) R s:=by
 have SF:=PySem.F.store_object;obtain⟨cd,rs,hc,hm⟩:=c.mro;have sub:Looks (model prog w) s.heap (isInstance (.ref x) (.type "object")) true:=I.type.andThen (looks_mroIn X (c.sub (by decide+kernel)));refine codeAny_call_builtin SF.slot.plain SF.entry (@check_slot (model prog w) _ _ s "object.__setattr__" "object" "__setattr__" (.ref x) [.str name tk,v] [] _ SF.kind SF.split sub (SF.args (.ref x) (.str name tk) v) ?_);have hl:Looks (model prog w) s.heap (mroOf (.ref C)) cd.mro:=(looks_clsIn X hc).andThen .now;rw[osa_eq,refuse_eq];refine ad (ad (I.type.here (ad (hl.here ?_))));rw[hm,jP];refine am (ad (I.type.here (ad ((looks_findIn X ht).here (ad (am ?_))))));exact h
end
variable {Q:K1}{u:Value}
section
variable {X:Cx}{Y:K2}{U:St}{H:Hp}{s:Shared}{a C dx:Addr}{fs:List (Str×V)}{f:Str}{v:V}{A:Around}{E:K1}{fr:Bool}
def ud {b:Bool}(I:Inv X Y U H s)(e:H a=some (.exc C (some dx) fs fr))(c:ck X.K C)(n:dH X.K C f)(l:fs.lookup f=some v)
  (h:∀ u s',Inv X Y U H s'->RelV v u->Q u s'):wpAny (model X.prog X.w) A (getAttr (.ref a) f b) Q E s:=by
 obtain⟨⟨vs,ho,_⟩,z⟩:=I.hok a _ e;rcases z with⟨z,_⟩|⟨d,ed,_,_,_,mA,hn,r,_⟩
 .cases z
 cases ed;obtain⟨u,hu,ru⟩:=cG.some_of (v:=v) (o:=mA f) (by rw[<-l];exact r f);obtain⟨od,hod,hl⟩:=g7 hn;refine zf (ox:={ cls:=.ref C,dict:=some dx,data:=.fields vs }) (od:=od) I.bF ⟨ho,rfl,rfl,hod⟩ c.ga c.gn (c.sub (by decide+kernel)) (W.findObj_own c.hd n rfl (by rw[hl,hu])) (kH ru) (h u _ (I.tok _) ru)
def qH {y:V}{Q:KZ}(I:Inv X Y U H s)(e:H a=some (.exc C (some dx) fs true))(c:ck X.K C)(n:dH X.K C f)(hl:fs.length<1000)(ry:RelV y u)
  (h:∀ s',Inv X Y U (upd H a (.exc C (some dx) (cj f y fs) true)) s'->Q () s'):wpAny (model X.prog X.w) A (setAttr (.ref a) f u) Q E s:=by
 obtain⟨⟨vs,ho,zz⟩,z⟩:=id (I.hok a _ e);rcases z with⟨z,_⟩|⟨d,ed,hown,_,hne,mA,hn,r,wi⟩
 .cases z
 cases ed;obtain⟨od,hod,hlk⟩:=g7 hn;have hz:(fs.map (·.1)).length<=bn:=by rw[ci,sizeLine_eq];omega
 have J:W.InstAt s.heap a { cls:=.ref C,dict:=some dx,data:=.fields vs } C (some od):=⟨ho,rfl,rfl,hod⟩;refine W.set_plain I.bF J c.sa (nI (s:={ s with toks:=s.toks+1 }) I.bF J c n ?_);obtain⟨cd,hc,hd'⟩:=W.any_some c.hd;refine ad (am (ad (ad (wpAny_loadPart ho (ad (W.Looks.here (s:={ s with toks:=s.toks+1 }) (W.looks_clsIn I.bF hc) ?_))))));rw[hd'];refine am (a:=some dx) (ad (am (ad ?_)));refine wpAny_nsSet1 (s:={ s with toks:=s.toks+1 }) hn λh' hn2 hs2=>?_
 obtain⟨oD,esD,epD,hoD,hdD,hcD⟩:=hn2.count (PySem.Within.cons f u wi);refine ad (wpAny_lookBehind hoD (by rw[hdD];exact pastItsLine_dict (Nat.le_trans hcD (by rw[length_cons];omega))) ?_);refine am (h _ ?_);refine I.write (x:=a) (e:=dx) (by rw[e];exact rfl) (.inr hown) (λb q hb z=>(hs2.2 b hb).trans z) ⟨oD,hoD⟩ ?_;refine⟨⟨vs,(hs2.2 _ (Ne.symm hne)).trans ho,zz⟩,.inr ⟨dx,rfl,by rw[af hne];exact hown,?_,hne,_,hn2,λg=>?_,λg hg=>?_⟩⟩
 .have:=ef f y fs;omega
 .show cG ((cj f y fs).lookup g) (if g=f then some u else mA g);rw[dF]
  by_cases q:g=f
  .rw[if_pos q,if_pos q];exact ry
  .rw[if_neg q,if_neg q];exact r g
 .by_cases q:g=f
  .rw[q];exact(cK f y fs).1
  .refine(cK f y fs).2 g (wi g λz=>hg ?_);show(if g=f then some u else mA g)=none;rw[if_neg q];exact z
def rD {y:V}{Q:KZ}(I:Inv X Y U H s)(e:H a=some (.exc C none fs true))(c:ck X.K C)(n:dH X.K C f)(ry:RelV y u)
  (h:∀ d s',H d=none->Inv X Y U (upd (upd H d (.own a)) a (.exc C (some d) [(f,y)] true)) s'->Q () s'):wpAny (model X.prog X.w) A (setAttr (.ref a) f u) Q E s:=by
 obtain⟨⟨vs,ho,zz⟩,z⟩:=id (I.hok a _ e);have hfs:fs=[]:=by
  rcases z with⟨_,z⟩|⟨d,ed,_⟩
  .exact z
  .cases ed
 subst hfs;have J:W.InstAt s.heap a { cls:=.ref C,dict:=none,data:=.fields vs } C none:=⟨ho,rfl,rfl,True.intro⟩;refine W.set_plain I.bF J c.sa (nI (s:={ s with toks:=s.toks+1 }) I.bF J c n ?_);obtain⟨cd,hc,hd'⟩:=W.any_some c.hd;refine ad (am (ad (ad (wpAny_loadPart ho (ad (W.Looks.here (s:={ s with toks:=s.toks+1 }) (W.looks_clsIn I.bF hc) ?_))))));rw[hd'];have hlt:=ut ho;have hxs:a≠s.heap.objs.size:=pi hlt;have ho1:(s.heap.push { cls:=.type "dict",data:=.dict #[] }).get? a=some { cls:=.ref C,dict:=none,data:=.fields vs }:=ul _ ho;refine ad (wpAny_alloc' ?_);refine ad (wpAny_update' ho1 ?_);refine am ?_;have hgd:((s.heap.push { cls:=.type "dict",data:=.dict #[] }).update a λo=>{ o with dict:=some s.heap.objs.size }).get? s.heap.objs.size=some { cls:=.type "dict",data:=.dict #[] }:=
  (Heap.get?_update_ne _ _ _ _ hxs.symm).trans (Heap.get?_push_at rfl rfl)
 have hga:((s.heap.push { cls:=.type "dict",data:=.dict #[] }).update a λo=>{ o with dict:=some s.heap.objs.size }).get? a=some { cls:=.ref C,dict:=some s.heap.objs.size,data:=.fields vs }:=
  Heap.get?_update_self _ ho1 rfl
 have hnd:((s.heap.push { cls:=.type "dict",data:=.dict #[] }).update a λo=>{ o with dict:=some s.heap.objs.size }).Ns s.heap.objs.size (λ_=>none):=
  ⟨_,#[],_,hgd,rfl,λe he=>absurd he (by simp),λ_=>rfl⟩
 show wpAny _ _ (storeInDict s.heap.objs.size (.str f _) f u) _ _ _;unfold storeInDict newKeyGuard;refine ad (am (ad (wpAny_nsSet1 (Heap.Ns1.of_empty hnd) λh' hn2 hs2=>?_)));obtain⟨oD,esD,epD,hoD,hdD,hcD⟩:=hn2.count (PySem.Within.cons f u PySem.Within.nil);refine ad (wpAny_lookBehind hoD (by rw[hdD];exact pastItsLine_dict (Nat.le_trans hcD (by rw[length_cons,length_nil,sizeLine_eq];omega))) ?_);have hd0:H s.heap.objs.size=none:=I.hok.fresh (re _);refine am (h s.heap.objs.size _ hd0 ?_);have e':upd H s.heap.objs.size (.own a) a=some (.exc C none [] true):=by rw[af hxs];exact e
 have I1:Inv X Y U (upd H s.heap.objs.size (.own a)) { s with heap:=s.heap.push { cls:=.type "dict",data:=.dict #[] },toks:=s.toks+1 }:=
  I.laid (a:=s.heap.objs.size) (o:=.own a) (t':=s.toks+1) (λb u q=>ul _ q) (re _) ⟨_,v0 s.heap rfl⟩
 have I2:=I1.write (x:=a) (e:=a) (o:=.exc C (some s.heap.objs.size) [] true) (t':=s.toks+1) (h':=(s.heap.push { cls:=.type "dict",data:=.dict #[] }).update a λo=>{ o with dict:=some s.heap.objs.size })
  (by rw[e'];exact rfl) (.inl rfl) (λb q hb z=>(Heap.get?_update_ne _ _ _ _ hb).trans z) ⟨_,hga⟩
  ⟨⟨vs,hga,zz⟩,.inr ⟨_,rfl,by rw[af hxs.symm,av],Nat.zero_le _,hxs.symm,_,Heap.Ns1.of_empty hnd,λ_=>True.intro,λy hy=>absurd rfl hy⟩⟩
 have ga':h'.get? a=some { cls:=.ref C,dict:=some s.heap.objs.size,data:=.fields vs }:=(hs2.2 a hxs).trans hga;have I3:=I2.write (x:=a) (e:=s.heap.objs.size) (o:=.exc C (some s.heap.objs.size) [(f,y)] true) (t':=s.toks+1+1) (h':=h') (by rw[av];exact rfl) (.inr (by rw[af hxs.symm,av]))
  (λb q hb z=>(hs2.2 b hb).trans z) ⟨oD,hoD⟩
  ⟨⟨vs,ga',zz⟩,.inr ⟨_,rfl,by rw[af hxs.symm,af hxs.symm,av],by show 1<=1000;decide,hxs.symm,_,hn2,λg=>?_,λg hg=>?_⟩⟩
 .rw[zd]at I3;exact I3
 .show cG (List.lookup g [(f,y)]) (if g=f then some u else none)
  by_cases q:g=f
  .have hb:(g ==f)=true:=beq_iff_eq.mpr q;simp only[List.lookup,hb,if_pos q];exact ry
  .have hb:(g ==f)=false:=beq_eq_false_iff_ne.mpr q;simp only[List.lookup,hb,if_neg q];exact True.intro
 .by_cases q:g=f
  .rw[q];simp
  .exact absurd (show(if g=f then some u else none)=none by rw[if_neg q]) hg
end
section
variable {X:Cx}{Y:K2}{U:St}{H:Hp}{s:Shared}{a C:Addr}{dx:Option Addr}{fs:List (Str×V)}{f:Str}{v:V}{A:Around}{E:K1}{fr:Bool}
def Inv.fields {vs':Array Value}{h':Heap}{t':Nat}(I:Inv X Y U H s)(e:H a=some (.exc C dx fs fr))(hs:vs'.size=6)(h1:(fr=true->vs'[1]? =some Value.none)/\vs'[2]? =some Value.none)
  (ha:h'.get? a=some { cls:=.ref C,dict:=dx,data:=.fields vs' }) (k:∀ b u,b≠a->s.heap.get? b=some u->h'.get? b=some u):Inv X Y U H { s with heap:=h',toks:=t' }:=by
 have na:∀ {b:Addr},H b=none->b≠a:=λn z=>by rw[z,e]at n;cases n
 refine I.step (g':=s.gens) (d':=s.drawn) (ch:=[]) (λ_ z=>nomatch z) (λb o _ _ _ q n=>k b o (na n) q) (λb o _ _ _ q n=>⟨o.slots,k b o (na n) q⟩) (λ_ _ _ _ n=>n) (λb o _ q=>?_) (λ_ _ q=>q) (λ_ _ _ q=>q) (λb ps q=>⟨#[],by rw[q];simp⟩) (λm hm=>?_) (λb u hb=>?_) I.bare
 .by_cases hb:b=a
  .rw[hb];exact⟨_,ha⟩
  .exact⟨o,k b o hb q⟩
 .obtain⟨o,es,ep,ho,r⟩:=hm;exact⟨o,es,ep,k _ o (na I.free) ho,r⟩
 .by_cases hba:b=a
  .subst hba;rw[e]at hb;cases hb;obtain⟨_,z⟩:=id (I.hok b _ e);refine⟨⟨vs',ha,hs,h1⟩,?_⟩;rcases z with z|⟨d,ed,d1,z1,ne,mA,⟨od,es,ep,e2,c⟩,r⟩
   .exact .inl z
   .exact .inr ⟨d,ed,d1,z1,ne,mA,⟨od,es,ep,k _ _ ne e2,c⟩,r⟩
  .refine(I.hok b u hb).du (λc v hc q=>k c v ?_ q) (λ_ q=>q) λ_ _ q=>q
   rcases hc with z|z
   .rw[z];exact hba
   .intro y;rw[y,e]at z;cases z
def jQ {R:Result->Shared->Prop}(I:Inv X Y U H s)(e:H a=some (.exc C dx fs fr))(c:ck X.K C)
  (h:∀ s',Inv X Y U H s'->R (.ok (.ret .none)) s'):codeAny (model X.prog X.w) A (.call (.builtin "ValueError.__init__") ⟨[.ref a,u],[]⟩) R s:=by
 have F:=PySem.F.excCall_ValueError;obtain⟨⟨vs,ho,hsz,h1⟩,z⟩:=id (I.hok a _ e);have L4:Looks (model X.prog X.w) s.heap (isInstance (.ref a) (.type "ValueError")) true:=(show Looks (model X.prog X.w) s.heap (typeOf (.ref a)) (.ref C) from(Looks.ld ho).andThen .now).andThen (looks_mroIn I.bF (c.sub (by decide+kernel)));refine codeAny_call_builtin F.init.plain F.initEntry ?_;simp only[checkBuiltinCall,F.initKind,F.initSplit,F.initRow];refine ad (L4.here ?_);simp only[Bool.not_true,Bool.false_eq_true,if_false];have hshort:("ValueError" != "*")=true:=by decide
 have h0:∃ a0,vs[0]? =some a0:=⟨_,Array.getElem?_eq_getElem nofun⟩;obtain⟨a0,h0⟩:=h0;obtain⟨hp,g,d,t,os⟩:=s;unfold Bind.checkArgs;have hn:Looks (model X.prog X.w) hp (typeOf (.ref a)) (.ref C):=(Looks.ld ho).andThen .now;obtain⟨cd,rs,hcl,_⟩:=c.mro;obtain⟨oc,od,sl,hC⟩:∃ oc od sl,hp.get? C=some ⟨oc,od,.cls cd,sl⟩:=by
  unfold W.clsIn at hcl
  split at hcl
  .rename_i ho';cases hcl;exact⟨_,_,_,I.bF _ _ ho'⟩
  .cases hcl
 repeat(first|with_reducible refine wpAny_load hC ?_|wp_step)
 rw[h0];have ho1:(hp.push { cls:=.type "tuple",data:=.seq #[u] }).get? a=some { cls:=.ref C,dict:=dx,data:=.fields vs }:=ul _ ho;have hq:=Heap.get?_update_self (Obj.mapFields (·.setIfInBounds 0 (.ref hp.objs.size))) ho1 (Obj.isFreed_of_fields (Obj.data_mapFields rfl _));have fin:R (.ok (.ret Value.none)) ⟨(hp.push { cls:=.type "tuple",data:=.seq #[u] }).update a (Obj.mapFields (·.setIfInBounds 0 (.ref hp.objs.size))),g,d,t,os⟩:=by
  refine h _ (I.fields (vs':=vs.setIfInBounds 0 (.ref hp.objs.size)) (t':=t) e (by simpa using hsz) ⟨λz=>?_,?_⟩ hq λb q hb z'=>?_)
  .rw[Array.getElem?_setIfInBounds_ne (by decide)];exact h1.1 z
  .rw[Array.getElem?_setIfInBounds_ne (by decide)];exact h1.2
  .exact(Heap.get?_update_ne _ _ _ _ hb).trans (ul _ z')
 refine am (ad (wpAny_setField ho1 rfl nofun ?_));cases a0<;>first|exact am (am fin)|exact wpAny_letGo (am fin)
def rE (I:Inv X Y U H s)(e:H a=some (.exc C dx fs fr))(c:ck X.K C)
  (h:∀ s',Inv X Y U H s'->Q .none s'):wpAny (model X.prog X.w) A (call (.builtin "ValueError.__init__") [.ref a,u]) Q E s:=wpAny_call (jQ I e c h)
end
abbrev bK (K:W.Frag)(C:Addr):Bool:=match K.lookup C with
 |some ⟨_,_,.cls cd,sl⟩=>!cd.abstract&& !cd.hasDel&&(sl.toList[4]?).join ==some (.builtin "ValueError.__new__")&&cX cd.mro&&cd.mro.contains (.ref C)&&
   W.specialIn K (.ref C) "__call__" ==some (some (.builtin "type.__call__"))&&W.instIn K (.ref C) (.type "type") ==some true
 |_=>false
structure yg (M:Model) (h:Heap) (C:Addr):Prop where
 obj:∃ oc od cd sl,h.get? C=some ⟨oc,od,.cls cd,sl⟩/\cd.abstract=false/\cd.hasDel=false/\cd.mro.isEmpty=false
 made:W.Looks M h (Bind.madeBy (.ref C)) (some "ValueError.__new__")
 base:W.Looks M h (Bind.staticBase (.ref C)) (.ref C)
 self:W.Looks M h (isSubtype (.ref C) (.ref C)) true
 top:W.Looks M h (isSubtype (.ref C) (.type "ValueError")) true
 no1:W.Looks M h (isSubtype (.ref C) (.type "AttributeError")) false
 no2:W.Looks M h (isSubtype (.ref C) (.type "NameError")) false
 call:W.Looks M h (specialOf (.ref C) "__call__") (some (.builtin "type.__call__"))
 typ:W.Looks M h (isInstance (.ref C) (.type "type")) true
def sr {n:String}(h:bI.contains (.type n)=false):(rs.map Value.ref++bI).contains (.type n)=false:=by
 induction rs with
 |nil=>exact h
 |cons a r ih=>rw[map_cons,List.cons_append,List.contains_cons,ih];rfl
def lF {K:W.Frag}{M:Model}{h:Heap}(X:K.In h){C:Addr}(e:bK K C=true):yg M h C:=by
 unfold bK at e
 split at e
 .rename_i oc od cd sl ho;simp only[mo,Bool.not_eq_true',beq_iff_eq]at e;obtain⟨⟨⟨⟨⟨⟨e1,e2⟩,e3⟩,e4⟩,e5⟩,e7⟩,e8⟩:=e;obtain⟨rs,em⟩:=cO e4;have hc:W.clsIn K C=some cd:=by unfold W.clsIn;rw[ho]
  have hm:Looks M h (mroOf (.ref C)) cd.mro:=(looks_clsIn X hc).andThen .now;have ne:cd.mro.isEmpty=false:=by rw[em];exact tf
  obtain⟨c,l,hl⟩:∃ c l,cd.mro=c::l:=by
   cases q:cd.mro with
   |nil=>rw[q]at ne;cases ne
   |cons c l=>exact⟨c,l,rfl⟩
  have made:Looks M h (Bind.madeBy (.ref C)) (some "ValueError.__new__"):=by
   intro A Q E s k q;unfold Bind.madeBy;refine ad (hm A _ E s k ?_);rw[hl,forIn_cons];refine ad (ad (ad (ad (wpAny_loadPart (k _ _ (X _ _ ho)) (am ?_)))));dsimp only;rw[<-Array.getElem?_toList,e3];exact am (am (am q))
  have mro:∀ {v b},cd.mro.contains v=b->W.mroIn K C v=some b:=λ{v b} q=>by
   unfold W.mroIn;rw[hc,Option.bind_some,if_neg (by rw[ne];decide),q]
  refine⟨⟨oc,od,cd,sl,X _ _ ho,e1,e2,ne⟩,made,?_,looks_mroIn X (mro e5),looks_mroIn X (mro (by rw[em];exact nM (by decide+kernel))),looks_mroIn X (mro (by rw[em];exact sr (by decide+kernel))),looks_mroIn X (mro (by rw[em];exact sr (by decide+kernel))),looks_specialIn X e7,looks_instIn X e8⟩;intro A Q E s k q;unfold Bind.staticBase;refine ad (hm A _ E s k ?_);rw[hl,forIn_cons];exact ad (ad (ad (made A _ E s k (am (am (am q))))))
 .cases e
variable {rest:List Value}
section
variable {prog:Program}{w:World}{A:Around}{K:W.Frag}{C:Addr}{R:Result->Shared->Prop}{h:Heap}{g:Array GenState}{d:Drawn}{t:Nat}{os:OsState}
def Cu (Y:yg (model prog w) h C)(hz:rest.length<=bn)
  (hq:R (.ok (.ret (.ref (h.objs.size+1)))) ⟨(h.push { cls:=.type "tuple",data:=.seq rest.toArray }).push { cls:=.ref C,data:=.fields #[.ref h.objs.size,.none,.none,.none,.bool false,.none] },g,d,t,os⟩):
  codeAny (model prog w) A (.call (.builtin "ValueError.__new__") ⟨.ref C::rest,[]⟩) R ⟨h,g,d,t,os⟩:=by
 obtain⟨⟨oc,od,cd,sl,hC,e1,e2,e4⟩,made,base,self,top,no1,no2,call,typ⟩:=Y;have F:=PySem.F.excBase_ValueError;have here:Looks (model prog w) h (Bind.madeHere "BaseException.__new__" (.ref C)) ():=base.andThen (made.andThen (Looks.of_pure (by simp only[Option.map_some,F.canon,bne_self_eq_false,Bool.false_eq_true,if_false])));refine codeAny_call_builtin_code (Code.quiet_builtin _ F.quiet) ?_;simp only[checkBuiltinCall,F.newKind,F.newSplit,F.newRow]
 repeat(first|simp only[bne_self_eq_false,Bool.false_eq_true,if_false]|lk)
 refine codeAny_builtinAt F.entry ?_;unfold Builtin.«BaseException.__new__»;refine PySem.wpAt_bind ?_;show PySem.wpAt _ _ _ (stack >>= _) _ _ _;refine PySem.wpAt_bind (PySem.wpAt_stack λp below=>PySem.wpAt_of_wpAny ?_);have hends:=F.ends
 wp_walk
 refine PySem.wpAt_of_wpAny ?_;rw[F.owner]
 repeat(first|simp only[Bool.not_true,Bool.false_eq_true,if_false]|lk)
 rw[if_neg (show ¬ (rest.toArray.size>bn) by rw[ii];omega)];unfold newObjAsIs;refine ad (wpAny_alloc (am (ad ?_)));show wpAny _ _ (newObjAsIs _ _ _) _ _ _;unfold newObjAsIs classHasDel;refine ad (wpAny_alloc (ad (ad (wpAny_load (ul _ (ul _ hC)) (am ?_)))));rw[e2];refine am (am ?_);show R _ _;rw[Heap.size_push];exact hq
def D4 {fI:Addr}(X:K.In h)(hz:rest.length<=bn)(hm:bK K C=true)(hi:W.findIn K (.ref C) "__init__"=some (some (.ref fI))) (hf:W.typeIn K (.ref fI)=some (.type "function"))
  (hq:codeAny (model prog w) (A.under (.builtin "type.__call__" ⟨.ref C::rest,[]⟩)) (.call (.ref fI) ⟨.ref (h.objs.size+1)::rest,[]⟩) (InitBack (h.objs.size+1) R)
   ⟨(h.push { cls:=.type "tuple",data:=.seq rest.toArray }).push { cls:=.ref C,data:=.fields #[.ref h.objs.size,.none,.none,.none,.bool false,.none] },g,d,t,os⟩):
  codeAny (model prog w) A (.call (.ref C) ⟨rest,[]⟩) R ⟨h,g,d,t,os⟩:=by
 have Y:=lF (M:=model prog w) X hm;have Y':=Y;obtain⟨⟨oc,od,cd,sl,hC,e1,e2,e4⟩,made,base,self,top,no1,no2,call,typ⟩:=Y;refine codeAny_of_tree ?_;show wpAny _ _ (callAny (.ref C) _) _ _ _;refine nd_load hC ?_;show wpAny _ _ (callAny.viaDunder (.ref C) _) _ _ _;unfold callAny.viaDunder;refine ad (call.at ?_);dsimp only;rw[tc_bind];refine ad (am (ad (am ?_)));refine am (a:=Fin.again (.call (.builtin "type.__call__") ⟨.ref C::rest,[]⟩)) (And.intro rfl ?_);refine codeAny_call_builtin_at (Code.quiet_builtin _ (by decide+kernel)) entry_typeCall (check_slot tc_kind tc_split typ (tc_args _ _ _) ?_);unfold Builtin.«type.__call__»;have hmr:Looks (model prog w) h (mroOf (.ref C)) cd.mro:=((Looks.ld (part:=none) hC).andThen .now).andThen .now
 repeat(first|simp only[e4,Bool.false_eq_true,if_false]|with_reducible refine wpAny_call ?_|lk)
 refine Cu Y' hz ?_;have k:∀ b o,h.get? b=some o->((h.push { cls:=.type "tuple",data:=.seq rest.toArray }).push { cls:=.ref C,data:=.fields #[.ref h.objs.size,.none,.none,.none,.bool false,.none] }).get? b=some o:=λb o e=>ul _ (ul _ e)
 have hx:((h.push { cls:=.type "tuple",data:=.seq rest.toArray }).push { cls:=.ref C,data:=.fields #[.ref h.objs.size,.none,.none,.none,.bool false,.none] }).get? (h.objs.size+1)=some { cls:=.ref C,data:=.fields #[.ref h.objs.size,.none,.none,.none,.bool false,.none] }:=by heap_get
 have t1:Looks (model prog w) ((h.push { cls:=.type "tuple",data:=.seq rest.toArray }).push { cls:=.ref C,data:=.fields #[.ref h.objs.size,.none,.none,.none,.bool false,.none] }) (typeOf (.ref (h.objs.size+1))) (.ref C):=(Looks.ld hx).andThen .now;have s1:=self.keeps k;have i1:=(looks_findIn (M:=model prog w) X hi).keeps k;have b1:=(bind_fn (M:=model prog w) X (.ref (h.objs.size+1)) hf).keeps k;unfold isInstance callSpecial? specialOf
 repeat(first|with_reducible refine wpAny_call ?_|lk)
 refine codeAny_mono hq λr s' z=>?_
 rcases r with e|(v|_|_|_)<;>first|exact z|exact z.elim|skip
 obtain⟨rfl,z⟩:=z;exact am (am z)
def zJ (X:K.In h)(hz:rest.length<=bn)(hm:bK K C=true)(hi:W.findIn K (.ref C) "__init__"=some (some (.builtin "ValueError.__init__")))
  (hq:codeAny (model prog w) (A.under (.builtin "type.__call__" ⟨.ref C::rest,[]⟩)) (.call (.builtin "ValueError.__init__") ⟨.ref (h.objs.size+1)::rest,[]⟩) (InitBack (h.objs.size+1) R)
   ⟨(h.push { cls:=.type "tuple",data:=.seq rest.toArray }).push { cls:=.ref C,data:=.fields #[.ref h.objs.size,.none,.none,.none,.bool false,.none] },g,d,t,os⟩):
  codeAny (model prog w) A (.call (.ref C) ⟨rest,[]⟩) R ⟨h,g,d,t,os⟩:=by
 have Y:=lF (M:=model prog w) X hm;have Y':=Y;obtain⟨⟨oc,od,cd,sl,hC,e1,e2,e4⟩,made,base,self,top,no1,no2,call,typ⟩:=Y;refine codeAny_of_tree ?_;show wpAny _ _ (callAny (.ref C) _) _ _ _;refine nd_load hC ?_;show wpAny _ _ (callAny.viaDunder (.ref C) _) _ _ _;unfold callAny.viaDunder;refine ad (call.at ?_);dsimp only;rw[tc_bind];refine ad (am (ad (am ?_)));refine am (a:=Fin.again (.call (.builtin "type.__call__") ⟨.ref C::rest,[]⟩)) (And.intro rfl ?_);refine codeAny_call_builtin_at (Code.quiet_builtin _ (by decide+kernel)) entry_typeCall (check_slot tc_kind tc_split typ (tc_args _ _ _) ?_);unfold Builtin.«type.__call__»;have hmr:Looks (model prog w) h (mroOf (.ref C)) cd.mro:=((Looks.ld (part:=none) hC).andThen .now).andThen .now
 repeat(first|simp only[e4,Bool.false_eq_true,if_false]|with_reducible refine wpAny_call ?_|lk)
 refine Cu Y' hz ?_;have k:∀ b o,h.get? b=some o->((h.push { cls:=.type "tuple",data:=.seq rest.toArray }).push { cls:=.ref C,data:=.fields #[.ref h.objs.size,.none,.none,.none,.bool false,.none] }).get? b=some o:=λb o e=>ul _ (ul _ e)
 have hx:((h.push { cls:=.type "tuple",data:=.seq rest.toArray }).push { cls:=.ref C,data:=.fields #[.ref h.objs.size,.none,.none,.none,.bool false,.none] }).get? (h.objs.size+1)=some { cls:=.ref C,data:=.fields #[.ref h.objs.size,.none,.none,.none,.bool false,.none] }:=by heap_get
 have t1:Looks (model prog w) ((h.push { cls:=.type "tuple",data:=.seq rest.toArray }).push { cls:=.ref C,data:=.fields #[.ref h.objs.size,.none,.none,.none,.bool false,.none] }) (typeOf (.ref (h.objs.size+1))) (.ref C):=(Looks.ld hx).andThen .now;have s1:=self.keeps k;have i1:=(looks_findIn (M:=model prog w) X hi).keeps k;have b1:Looks (model prog w) ((h.push { cls:=.type "tuple",data:=.seq rest.toArray }).push { cls:=.ref C,data:=.fields #[.ref h.objs.size,.none,.none,.none,.bool false,.none] }) (bindSpecial (.builtin "ValueError.__init__") (.ref (h.objs.size+1))) (.builtin "ValueError.__init__",[.ref (h.objs.size+1)]):=Looks.of_pure (PySem.F.excCall_ValueError.init.bind _);unfold isInstance callSpecial? specialOf
 repeat(first|with_reducible refine wpAny_call ?_|lk)
 refine codeAny_mono hq λr s' z=>?_
 rcases r with e|(v|_|_|_)<;>first|exact z|exact z.elim|skip
 obtain⟨rfl,z⟩:=z;exact am (am z)
end
end L2
namespace L2
open PySem PySem.Spec PySem.W PyProof.Rows
abbrev bp (e:Addr)(h h':Heap):Prop:=∀ oe vs,h.get? e=some oe->oe.data=.fields vs->∃ vs',h'.get? e=some { oe with data:=.fields vs' }/\vs'.size=vs.size/\vs'[2]? =vs[2]?
abbrev EI (as:List Addr)(h h':Heap):Prop:=∀ b o,b ∉ as->h.get? b=some o->h'.get? b=some o
abbrev uB (h:Heap)(e T:Addr)(fl:Value):Prop:=∃ oe vs oT ts,h.get? e=some oe/\oe.data=.fields vs/\vs[1]? =some (.ref T)/\T≠e/\h.get? T=some oT/\oT.data=.fields ts/\ts[3]? =some fl
def bp.trans {e:Addr}{h h1 h2:Heap}(a:bp e h h1)(b:bp e h1 h2):bp e h h2:=λoe vs x y=>by
 obtain⟨vs1,x1,z1⟩:=a oe vs x y;obtain⟨vs2,x2,z2⟩:=b _ vs1 x1 rfl;exact⟨vs2,x2,z2.1.trans z1.1,z2.2.trans z1.2⟩
def bp.same {e:Addr}{h h':Heap}(k:h'.get? e=h.get? e):bp e h h':=λoe vs x y=>⟨vs,by rw[k,x,<-y],rfl,rfl⟩
variable {Q:KZ}
section
variable {M:Model}{A:Around}{E:K1}{s:Shared}{base:Heap}{env:Env}{outer:List Env}{L e:Addr}
def lC {oe:Obj}{vs:Array Value}{head:Value}{hadNext:Bool}(hfr:A.frames=some (env::outer))(hl:s.heap.FunFrames base (env::outer))(hf:env.frame=some L)
  (he:s.heap.get? e=some oe) (hd:oe.data=.fields vs) (hsz:1<vs.size)
  (q:∀ h' T,s.heap.objs.size<=T->uB h' e T (rawInt L)->bp e s.heap h'->(∀ b o,b≠e->s.heap.get? b=some o->∃ sl,h'.get? b=some { o with slots:=sl })->EI (e::nD (env::outer)) s.heap h'->Q () { s with heap:=h' }):
  wpAny M A (do let a <-frameOf env;let pl <-entryPlaceOf L hadNext;let b <-EntryCells.newEntry head a .none (rawInt L) .none pl;setField (.ref e) 1 b) Q E s:=by
 have hne:e ∉ nD (env::outer):=λhm=>by
  obtain⟨_,o,ho,hnf⟩:=hl.mem hm;rw[he]at ho;cases ho;exact hnf vs hd
 refine ad (wpAny_frameOf_fun hfr hl hf λh1 s1=>ad (wpAny_entryPlaceOf λpl hpl=>?_));unfold EntryCells.newEntry newFields;refine ad (wpAny_newObj_type ?_ (hpl.sizeOk5 _ _ _ _ _));have e1:h1.get? e=some oe:=(s1.2.1 e hne).trans he;have e2:=ul (h:=h1) { cls:=.type "traceback",dict:=none,data:=.fields ([head,.ref L,.none,rawInt L,.none]++(if pl.isEmpty then sK 6 Value.none else pl)).toArray } e1;have hTe:h1.objs.size≠e:=Nat.ne_of_gt (ut e1);have d3:=Obj.data_mapFields hd (·.setIfInBounds 1 (Value.ref h1.objs.size));have e3:=Heap.get?_update_self (Obj.mapFields (·.setIfInBounds 1 (Value.ref h1.objs.size))) e2 (Obj.isFreed_of_fields d3);have t3:=(Heap.get?_update_other (h1.push { cls:=.type "traceback",dict:=none,data:=.fields ([head,.ref L,.none,rawInt L,.none]++(if pl.isEmpty then sK 6 Value.none else pl)).toArray })
  (Obj.mapFields (·.setIfInBounds 1 (Value.ref h1.objs.size))) (Ne.symm hTe)).trans (v0 h1 rfl)
 have keep:∀ b o,b≠e->h1.get? b=some o->((h1.push { cls:=.type "traceback",dict:=none,data:=.fields ([head,.ref L,.none,rawInt L,.none]++(if pl.isEmpty then sK 6 Value.none else pl)).toArray }).update e (Obj.mapFields (·.setIfInBounds 1 (Value.ref h1.objs.size)))).get? b=some o:=
  λb o hb hq=>(Heap.get?_update_other _ _ (Ne.symm hb)).trans (ul _ hq)
 refine wpAny_setField e2 hd hsz (q _ h1.objs.size ?_ ?_ ?_ (λb o hb ho=>?_) λb o hb ho=>?_)
 .rw[s1.1];exact re _
 .refine⟨_,_,_,_,e3,d3,by simp[hsz],hTe,t3,rfl,?_⟩
  first|(simp;done)|(rcases hpl with rfl|⟨_,_,_,_,_,_,_,rfl⟩<;>simp)
 .intro oe' vs' x y;rw[he]at x;cases x;rw[hd]at y;cases y;refine⟨vs.setIfInBounds 1 (.ref h1.objs.size),?_,by simp,Array.getElem?_setIfInBounds_ne (by decide)⟩;rw[e3];obtain⟨c0,d0,dt,sl0⟩:=oe;cases hd
  rfl
 .obtain⟨sl,z⟩:=s1.2.2 b o ho;exact⟨sl,keep b _ hb z⟩
 .exact keep b o (λz=>hb (by rw[z];exact lv)) ((s1.2.1 b λz=>hb (dL _ z)).trans ho)
abbrev yd (n₀:Nat)(ps:K2)(H:Hp)(h:Heap)(e:Addr):Prop:=(∃ oe vs,h.get? e=some oe/\oe.data=.fields vs/\vs[1]? =some Value.none)\/∃ T,n₀<=T/\H T=none/\(∀ p ∈ ps,p.1≠T)/\∃ fl,uB h e T fl
def zu {n₀:Nat}{ps:K2}{H:Hp}(hfr:A.frames=some (env::outer))(hl:s.heap.FunFrames base (env::outer))(hf:env.frame=some L)(sf:(∃ oe vs,s.heap.get? e=some oe/\oe.data=.fields vs/\vs[1]? =some Value.none)\/∃ T,n₀<=T/\H T=none/\(∀ p ∈ ps,p.1≠T)/\∃ fl,(fl ==rawInt L)=false/\uB s.heap e T fl) (h0:n₀<=s.heap.objs.size) (hps:∀ p ∈ ps,p.1<s.heap.objs.size)
  (q:∀ h' T T0,s.heap.objs.size<=T->n₀<=T0->(H T0=none\/s.heap.objs.size<=T0)->(∀ p ∈ ps,p.1≠T0)->(∀ o,s.heap.get? T0=some o->∃ ts,o.data=.fields ts)->uB h' e T (rawInt L)->bp e s.heap h'->h'.FunFrames base (env::outer)->(∀ b o,b≠e->b≠T0->s.heap.get? b=some o->∃ sl,h'.get? b=some { o with slots:=sl })->EI (e::T0::nD (env::outer)) s.heap h'->(∀ b o,s.heap.get? b=some o->∃ o',h'.get? b=some o')->Q () { s with heap:=h' }):
  wpAny M A (noteFrame (.ref e) env) Q E s:=by
 have fun_of:∀ {h':Heap}{as:List Addr},(∀ b ∈ as,∀ o,s.heap.get? b=some o->∃ vs,o.data=.fields vs)->(∀ b o,b ∉ as->s.heap.get? b=some o->∃ sl,h'.get? b=some { o with slots:=sl })->h'.FunFrames base (env::outer):=
  λ{h' as} ha k=>hl.of_keeps λb o ho hnf=>by
   by_cases hb:b ∈ as
   .obtain⟨vs,z⟩:=ha b hb o ho;exact absurd z (hnf vs)
   .obtain⟨sl,z⟩:=k b o hb ho;exact⟨_,z,rfl⟩
 unfold noteFrame;simp only[hf];rcases sf with⟨oe,vs,he,hd,h1⟩|⟨T0,hT0,hH0,hp0,fl,hfl,oe,vs,oT,ts,he,hd,h1,hTe,hT,hdT,h3⟩
 .skip
  refine ad (ap he hd h1 ?_);rw[if_neg (by decide)];refine lC hfr hl hf he hd (Array.getElem?_eq_some_iff.mp h1).1 λh' T hT st fo sl sy=>?_
  refine q h' T s.heap.objs.size hT h0 (.inr (re _)) (λp hp=>pi (hps p hp)) (λo z=>absurd (ut z) (Nat.lt_irrefl _)) st fo ?_ (λb o hb _ ho=>sl b o hb ho) (λb o hb ho=>sy b o (λz=>hb ?_) ho) λb o ho=>?_
  .refine fun_of (as:=[e]) (λb hb o ho=>?_) λb o hb ho=>sl b o (by simpa using hb) ho
   obtain rfl:b=e:=by simpa using hb
   rw[he]at ho;cases ho;exact⟨vs,hd⟩
  .rcases lw.mp z with z|z
   .exact lw.mpr (.inl z)
   .exact dL _ (dL _ z)
  .by_cases hb:b=e
   .subst hb;rw[he]at ho;cases ho;obtain⟨vs',z,_⟩:=fo _ _ he hd;exact⟨_,z⟩
   .obtain⟨sl',z⟩:=sl b o hb ho;exact⟨_,z⟩
 .refine ad (ap he hd h1 ?_);rw[if_pos (show(Value.ref T0 != Value.none)=true from by simp)];refine ad (ap hT hdT h3 ?_);rw[if_neg (by rw[hfl];exact Bool.false_ne_true)];refine ad (wpAny_setField hT hdT (Array.getElem?_eq_some_iff.mp h3).1 ?_);have other:∀ b,b≠T0->(s.heap.update T0 (Obj.mapFields (·.setIfInBounds 3 Value.none))).get? b=s.heap.get? b:=λb hb=>Heap.get?_update_other _ _ (Ne.symm hb)
  have self':=Heap.get?_update_self (Obj.mapFields (·.setIfInBounds 3 Value.none)) hT (Obj.isFreed_of_fields (Obj.data_mapFields hdT _));have rec':∀ b o,s.heap.get? b=some o->(∀ vs,o.data≠.fields vs)->b≠T0:=λb o hb hnf z=>by
   rw[z,hT]at hb;cases hb;exact hnf ts hdT
  refine lC (base:=base) hfr (hl.of_keeps λb o hb hnf=>⟨o,(other b (rec' b o hb hnf)).trans hb,rfl⟩) hf ((other e (Ne.symm hTe)).trans he) hd (Array.getElem?_eq_some_iff.mp h1).1 λh' T hTn st fo sl sy=>?_
  have hTn':s.heap.objs.size<=T:=by
   have z:(s.heap.update T0 (Obj.mapFields (·.setIfInBounds 3 Value.none))).objs.size<=T:=hTn
   rwa [Heap.size_after_update]at z
  refine q h' T T0 hTn' hT0 (.inl hH0) hp0 (λo z=>by rw[hT]at z;cases z;exact⟨ts,hdT⟩) st (bp.trans (bp.same (other e (Ne.symm hTe))) fo) ?_ (λb o hb hb0 ho=>sl b o hb ((other b hb0).trans ho)) (λb o hb ho=>?_) λb o ho=>?_
  .refine fun_of (as:=[e,T0]) (λb hb o ho=>?_) λb o hb ho=>sl b o (λz=>hb (by simp[z])) ((other b λz=>hb (by simp[z])).trans ho)
   rcases lw.mp hb with hb|hb
   .subst hb;rw[he]at ho;cases ho;exact⟨vs,hd⟩
   .obtain rfl:b=T0:=by simpa using hb
    rw[hT]at ho;cases ho;exact⟨ts,hdT⟩
  .have n1:b≠e:=λz=>hb (by simp[z])
   have n2:b≠T0:=λz=>hb (by simp[z])
   refine sy b o (λz=>hb ?_) ((other b n2).trans ho);rcases lw.mp z with z|z
   .exact lw.mpr (.inl z)
   .exact dL _ (dL _ z)
  .by_cases hb:b=e
   .subst hb;obtain⟨vs',z,_⟩:=fo _ _ ((other b (Ne.symm hTe)).trans he) hd;exact⟨_,z⟩
   .by_cases hb0:b=T0
    .subst hb0;obtain⟨sl',z⟩:=sl b _ hb self';exact⟨_,z⟩
    .obtain⟨sl',z⟩:=sl b o hb ((other b hb0).trans ho);exact⟨_,z⟩
def tL {T:Addr}{fl:Value}(st:uB s.heap e T fl)
  (q:∀ h',uB h' e T .none->(∀ b,b≠T->h'.get? b=s.heap.get? b)->(∃ o,s.heap.get? T=some o)->(∃ o,h'.get? T=some o)->(∃ oT ts,h'.get? T=some oT/\oT.data=.fields ts)->Q () { s with heap:=h' }):wpAny M A (setFlight (.ref e) none) Q E s:=by
 obtain⟨oe,vs,oT,ts,he,hd,h1,hTe,hT,hdT,h3⟩:=st;have hz:3<ts.size:=(Array.getElem?_eq_some_iff.mp h3).1;have other:∀ b,b≠T->(s.heap.update T (Obj.mapFields (·.setIfInBounds 3 ((none:Option Addr).elim Value.none λf=>rawInt f)))).get? b=s.heap.get? b:=λb hb=>Heap.get?_update_other _ _ (Ne.symm hb)
 have self':=Heap.get?_update_self (Obj.mapFields (·.setIfInBounds 3 ((none:Option Addr).elim Value.none λf=>rawInt f))) hT (Obj.isFreed_of_fields (Obj.data_mapFields hdT _));unfold setFlight;refine ad (ap he hd h1 ?_);rw[if_pos (show(Value.ref T != Value.none)=true from by simp)];refine wpAny_setField hT hdT hz (q _ ⟨oe,vs,_,_,(other e (Ne.symm hTe)).trans he,hd,h1,hTe,self',Obj.data_mapFields hdT _,by simp[hz]⟩ other ⟨_,hT⟩ ⟨_,self'⟩ ⟨_,_,self',Obj.data_mapFields hdT _⟩)
end
variable {A:Around}
section
variable {X:Cx}{U:St}{H:Hp}{s:Shared}{e C:Addr}{dx:Option Addr}{fs:List (Str×V)}{h':Heap}
def Inv.qT {Y:K2}(I:Inv X Y U H s):Inv X [] U H s:=I.md λ_ z=>absurd z (by simp)
def Inv.FU {T0:Addr}{as:List Addr}(I:Inv X [] U H s)(hpn:∀ p ∈ X.pn,p.1≠T0) (he:H e=some (.exc C dx fs false)) (has:as=nD X.stack)
  (hT:X.s₀.heap.objs.size<=T0) (hT0:H T0=none\/s.heap.objs.size<=T0) (hTd:∀ o,s.heap.get? T0=some o->∃ ts,o.data=.fields ts)
  (fo:bp e s.heap h') (sl:∀ b o,b≠e->b≠T0->s.heap.get? b=some o->∃ sl,h'.get? b=some { o with slots:=sl }) (sy:EI (e::T0::as) s.heap h') (th:∀ b o,s.heap.get? b=some o->∃ o',h'.get? b=some o'):
  Inv X [] U H { s with heap:=h' }:=by
 subst has;obtain⟨⟨vs,ho,hsz,_,h2⟩,z⟩:=id (I.hok e _ he);have hH0:H T0=none:=by
  rcases hT0 with z|z
  .exact z
  .exact I.hok.fresh z
 have nT:∀ {b:Addr}{o:Obj},s.heap.get? b=some o->(∀ vs,o.data≠.fields vs)->b≠T0:=λ{b o} hb hn z=>by
  subst z;obtain⟨ts,q⟩:=hTd _ hb;exact hn ts q
 have du:∀ b o,H b=none->b≠T0->b ∉ nD X.stack->s.heap.get? b=some o->h'.get? b=some o:=λb o hb h0 hf hq=>sy b o (λm=>by
  rcases lw.mp m with m|m
  .rw[m,he]at hb;cases hb
  .rcases lw.mp m with m|m
   .exact h0 m
   .exact hf m) hq
 have Ck:∀ a u,H a=some u->a≠e->∀ o,s.heap.get? a=some o->h'.get? a=some o:=λa u ha ne o hq=>sy a o (λm=>by
  rcases lw.mp m with m|m
  .exact ne m
  .rcases lw.mp m with m|m
   .rw[m,hH0]at ha;cases ha
   .rw[I.l9 a m]at ha;cases ha) hq
 refine I.step (g':=s.gens) (t':=s.toks) (d':=s.drawn) (ch:=[T0]) (h':=h') (λb hb=>?_) (λb o hL hfs hch hq hn=>?_) (λb o hL hfs hch hq hn=>?_) (λb o _ _ hn=>hn) (λb o _ hq=>th b o hq) (λ_ _ q=>q) (λ_ _ _ q=>q) (λb ps q=>⟨#[],by rw[q];simp⟩) (λm hm=>?_) (λa u ha=>?_) I.bare
 .obtain rfl:b=T0:=by simpa using hb
  refine⟨.inr hT,?_,λx c hc z=>?_,λp hp=>hpn p (by simpa using hp)⟩
  .obtain⟨m,⟨o,es,ep,ho',hd,_⟩,_⟩:=I.loc;intro z;exact nT ho' (λvs q=>by rw[hd]at q;cases q) z.symm
  .obtain⟨v,o,ho',hd⟩:=I.cell x c hc;exact nT ho' (λvs q=>by rw[hd]at q;cases q) z
 .refine du b o hn (by simpa using hch) (λm=>?_) hq;rcases lw.mp (I.gQ b m) with z|z
  .exact hL z
  .exact hfs z
 .exact sl b o (λz=>by rw[z,he]at hn;cases hn) (by simpa using hch) hq
 .obtain⟨o,es,ep,ho',hd,r⟩:=hm;have n1:X.env.locals≠e:=λz=>by have:=I.free;rw[z,he]at this;cases this
  obtain⟨sl',q⟩:=sl _ o n1 (nT ho' λvs q=>by rw[hd]at q;cases q) ho';exact⟨_,es,ep,q,hd,r⟩
 .by_cases hae:a=e
  .subst hae;rw[he]at ha;cases ha;obtain⟨vs',q,hz,hz2⟩:=fo _ vs ho rfl;refine⟨⟨vs',q,hz.trans hsz,(λy=>by cases y),hz2.trans h2⟩,?_⟩;rcases z with z|⟨d,ed,d1,z1,ne,mA,⟨od,es,ep,e2,c⟩,r⟩
   .exact .inl z
   .exact .inr ⟨d,ed,d1,z1,ne,mA,⟨od,es,ep,Ck d _ d1 ne _ e2,c⟩,r⟩
  .refine(I.hok a u ha).du (λb o hb hq=>?_) (λ_ q=>q) λ_ _ q=>q
   rcases hb with hb|hb
   .subst hb;exact Ck b u ha hae o hq
   .refine Ck b _ hb (λz=>?_) o hq;rw[z,he]at hb;cases hb
abbrev vz (P:Program)(w:World):tV:=λouter H s E u s'=>∃ (e:Addr) (H':Hp) (C:Addr) (dx:Option Addr) (fs:List (Str×V)) (T:Addr),u=.ref e/\s'.os=s.os/\AllBare s'.gens/\Un (nD outer) [] H H' s.heap s'.heap/\fw P w H' s'.heap/\
 H' e=some (.exc C dx fs false)/\s.heap.objs.size<=T/\H' T=none/\uB s'.heap e T .none/\E e H'
abbrev Dm (X:Cx)(E:St->XK):Prop:=∀ (U:St) (H:Hp) (s:Shared) (e C:Addr) (dx:Option Addr) (fs:List (Str×V)),Inv X [] U H s->yd X.s₀.heap.objs.size X.pn H s.heap e->H e=some (.exc C dx fs false)->E U e H->X.xe (.ref e) s
def cF {E:St->XK}(x:Dm X E):Passes (vz X.prog X.w) X E:=by
 intro Y U H s u s' I h;obtain⟨e,H',C,dx,fs,T,rfl,os,bare,un,hok,he,hT,hT0,st,q⟩:=h;have J:Inv X [] U H' s':=Inv.tw (ch:=[]) I.qT os un hok bare (λb z=>absurd z (by simp));exact x U H' s' e C dx fs J (.inr ⟨T,Nat.le_trans I.sz hT,hT0,λp hp=>pi (nw (ut (I.pin p (mem_append_left _ hp)).1) hT),_,st⟩) he q
def l8 {x:Value}{e1 e2:Env}(h:e1.frame=e2.frame):noteFrame x e1=noteFrame x e2:=by
 unfold noteFrame PySem.frameOf;rw[h]
def Inv.xD {T:Addr}{oT:Obj}{ts:Array Value}(I:Inv X [] U H s)(hT:s.heap.get? T=some oT)(hd:oT.data=.fields ts):T≠X.env.locals/\∀ x c,X.env.cells.lookup x=some c->c≠T:=by
 refine⟨λz=>?_,λx c hc z=>?_⟩
 .obtain⟨m,⟨o,es,ep,ho',hd',_⟩,_⟩:=I.loc;rw[<-z,hT]at ho';cases ho';rw[hd]at hd';cases hd'
 .obtain⟨v,o,ho',hd'⟩:=I.cell x c hc;rw[z,hT]at ho';cases ho';rw[hd]at hd';cases hd'
def qh {M:Model}{E':K1}{env e0:Env}{o0:List Env}{L:Addr}(I:Inv X [] U H s)(hs:X.stack=e0::o0)(hf0:e0.frame=some L)(hf:env.frame=some L)(sf:yd X.s₀.heap.objs.size X.pn H s.heap e)(he:H e=some (.exc C dx fs false))
  (q:∀ h' T,Inv X [] U H { s with heap:=h' }->X.s₀.heap.objs.size<=T->H T=none->(∀ p ∈ X.pn,p.1≠T)->uB h' e T (rawInt L)->Q () { s with heap:=h' }):
  wpAny M X.A (noteFrame (.ref e) env) Q E' s:=by
 rw[l8 (e1:=env) (e2:=e0) (hf.trans hf0.symm)];have hl:s.heap.FunFrames X.base (e0::o0):=hs▸I.stack;have go:((∃ oe vs,s.heap.get? e=some oe/\oe.data=.fields vs/\vs[1]? =some Value.none)\/∃ T,X.s₀.heap.objs.size<=T/\H T=none/\(∀ p ∈ X.pn,p.1≠T)/\∃ fl,(fl ==rawInt L)=false/\uB s.heap e T fl)->wpAny M X.A (noteFrame (.ref e) e0) Q E' s:=λsf=>by
  refine zu (by rw[<-hs];exact I.ok.frames) hl hf0 sf I.sz (λp hp=>ut (I.pin p (mem_append_left _ hp)).1) λh1 T T0 hT hT0 hH0 hp0 hTd st fo fF sl sy th=>?_
  exact q h1 T (I.FU (T0:=T0) (as:=nD (e0::o0)) (h':=h1) hp0 he (by rw[hs]) hT0 hH0 hTd fo sl sy th) (Nat.le_trans I.sz hT) (I.hok.fresh hT) (λp hp=>pi (nw (ut (I.pin p (mem_append_left _ hp)).1) hT)) st
 rcases sf with sf|⟨T,hT,hH,hp,fl,st⟩
 .exact go (.inl sf)
 .cases hfl:(fl ==rawInt L) with
  |false=>exact go (.inr ⟨T,hT,hH,hp,fl,hfl,st⟩)
  |true=>
   obtain rfl:fl=rawInt L:=eq_of_beq hfl;obtain⟨oe,vs,oT,ts,he',hd,h1,hTe,hoT,hdT,h3⟩:=id st;exact wpAny_noteFrame_inFlight hf0 he' hd h1 hoT hdT h3 (q s.heap T I hT hH hp st)
def ly {M:Model}{E E':K1}{Q:Shared->Prop}(I:Inv X [] U H s)(hs:X.stack=X.env::X.outer)(hf:X.env.frame=some X.env.locals)(sf:yd X.s₀.heap.objs.size X.pn H s.heap e)(he:H e=some (.exc C dx fs false))
  (q:∀ s' T,Inv X [] U H s'->s'.os=s.os->X.s₀.heap.objs.size<=T->H T=none->(∀ p ∈ X.pn,p.1≠T)->uB s'.heap e T .none->Q s'):
  wpAny M X.A (noteFrame (.ref e) X.env) (λ_ s1=>wpAny M X.A (setFlight (.ref e) none) (λ_ s2=>Q s2) E s1) E' s:=by
 refine qh I hs hf hf sf he λh1 T I1 hT hHT hpT st=>?_
 obtain⟨_,_,oT,ts,_,_,_,_,hoT,hdT,_⟩:=id st;obtain⟨n1,n2⟩:=I1.xD hoT hdT;refine tL (s:={ s with heap:=h1 }) st λh2 nH oth _ th2 rec2=>?_
 exact q _ T (Inv.turned (s:={ s with heap:=h1 }) (it:=T) (h':=h2) (t':=s.toks) I1 (λb o hb hq=>(oth b hb).trans hq) hHT n1 (.inr hT) n2 λp hp=>hpT p (by simpa using hp)) rfl hT hHT hpT nH
def uR {c:Bool}{P:Program}{w:World}{K:W.Frag}{mg:K3}{base:Heap}{N:List Str}{qual:Str}{scope:Scope}{f:Addr}{cd:Value}{outer:List Env}{E:XK}:
  Dm (uo c (vz P w) P w K mg base N qual scope f cd A outer s H E) (λ_=>E):=by
 intro σ' H' s' e C dx fs I sf he q;show wpAny _ _ (do noteFrame (.ref e) _;setFlight (.ref e) none) _ _ s';refine ad (ly I rfl rfl sf he λs2 T J os hT hH _ st=>?_);exact⟨e,H',C,dx,fs,T,rfl,J.os,J.bare,J.base,J.hok,he,hT,hH,st,q⟩
end
structure Ia (K:W.Frag) (C f:Addr):Prop where
 mks:bK K C=true
 init:W.findIn K (.ref C) "__init__"=some (some (.ref f))
 fn:W.isFn K (.ref f)=true
 kp:W.keepIn K (.ref C)=true
variable {us:List Value}{vs:List V}
section
variable {X:Cx}{Y:K2}{U:St}{H:Hp}{s:Shared}{C f:Addr}
def Inv.Cj (us:List Value)(I:Inv X Y U H s):Inv X Y U (upd H (s.heap.objs.size+1) (.exc C none [] true))
  { s with heap:=(s.heap.push { cls:=.type "tuple",data:=.seq us.toArray }).push { cls:=.ref C,data:=.fields #[.ref s.heap.objs.size,.none,.none,.none,.bool false,.none] } }:=by
 have I1:=I.kept (h':=s.heap.push { cls:=.type "tuple",data:=.seq us.toArray }) (t':=s.toks) λb u q=>ul _ q
 refine Inv.laid (s:={ s with heap:=s.heap.push { cls:=.type "tuple",data:=.seq us.toArray } }) (a:=s.heap.objs.size+1) (o:=.exc C none [] true) (t':=s.toks) I1 (λb u q=>ul _ q) (Nat.le_of_eq (Heap.size_push _ _)) ?_;refine⟨⟨#[.ref s.heap.objs.size,.none,.none,.none,.bool false,.none],?_,rfl,λ_=>rfl,rfl⟩,.inl ⟨rfl,rfl⟩⟩;have:=v0 (s.heap.push { cls:=.type "tuple",data:=.seq us.toArray }) (o:={ cls:=.ref C,data:=.fields #[.ref s.heap.objs.size,.none,.none,.none,.bool false,.none] }) rfl
 rwa [Heap.size_push]at this
variable {c:Bool}{CX:tV}{k:Nat}{fd:FuncData}{ps:List Str}{sp:Sp}{dvs:List V}{ds:List Value}{E:St->XK}{x m:Str}{p pos apos:Pos}{e o:Expr}{es:List Expr}{ta:TE}{t:TA}
abbrev vW (C:Addr)(sp:Sp)(dvs:List V)(E:St->XK)(t:TA):TE:=λU H Q=>t U H λvs H1=>vs.length<=1000/\∀ x,H1 x=none->sp (.ref x::(vs++dvs)) (upd H1 x (.exc C none [] true)) (λv H2=>v=.non/\Q (.ref x) H2) (E U)
def lB {Q:VK}(M:Ia X.K C f)(F:cz c X.prog X.w X.K X.mg X.base CX k f fd ps sp)(hh:∀ {Y:K2}{U:St}{H:Hp}{s:Shared}{vs:List V}{Q:VK}{E:XK},Inv X Y U H s->sp vs H Q E->vk c X.A.handled H) (hr:bB (k+1) X.A) (hb:Binds X.K fd ps ds) (hd:Vals dvs ds)
  (hx:Passes CX X E) (hz:us.length<=bn) (I:Inv X Y U H s) (r:Vals vs us)
  (h:∀ x,H x=none->sp (.ref x::(vs++dvs)) (upd H x (.exc C none [] true)) (λv H2=>v=.non/\Q (.ref x) H2) (E U)):
  wpAny (model X.prog X.w) X.A (call (.ref C) us) (EP X Y U Q) X.xe s:=by
 have hq:=h (s.heap.objs.size+1) (I.hok.fresh (Nat.le_succ _));have I2:=Inv.Cj (C:=C) us I;have r2:Vals (V.ref (s.heap.objs.size+1)::(vs++dvs)) (Value.ref (s.heap.objs.size+1)::(us++ds)):=.cons rfl (r.append hd);have hl:(Value.ref (s.heap.objs.size+1)::us++ds).length=ps.length:=by
  have e:=r2.length;rw[F.len _ _ _ _ hq]at e;exact e.symm
 obtain⟨hp,g,d,tk,os⟩:=s;refine wpAny_call (D4 (fI:=f) I.bF hz M.mks M.init (beq_iff_eq.mp M.fn) (codeAny_mono (F.run _ X.stack _ _ ⟨Value.ref (hp.objs.size+1)::us,[]⟩ (Value.ref (hp.objs.size+1)::(us++ds)) _ _ (E U) (hr.make C us []) (hh I2 hq)
  (I2.gZ.make C us []) (hb _ (Value.ref (hp.objs.size+1)::us) I2.bF hl) r2 hq) λr s' hq'=>?_))
 cases r with
 |error e=>exact hx Y U _ _ e s' I2 hq'
 |ok fl=>
  cases fl with
  |ret u=>
   obtain⟨v,H',J,rv,ev,q⟩:=I2.after hq';subst ev;obtain rfl:u=Value.none:=rv;exact⟨rfl,.ref _,H',J,rfl,q⟩
  |next=>exact False.elim hq'
  |brk=>exact False.elim hq'
  |cont=>exact False.elim hq'
def xH (M:Ia X.K C f)(F:cz c X.prog X.w X.K X.mg X.base CX k f fd ps sp)(hh:∀ {Y:K2}{U:St}{H:Hp}{s:Shared}{vs:List V}{Q:VK}{E:XK},Inv X Y U H s->sp vs H Q E->vk c X.A.handled H) (hr:bB (k+1) X.A) (hg:Gl X x) (hm:X.mg x=some (.ref C)) (hb:Binds X.K fd ps ds) (hd:Vals dvs ds) (hx:Passes CX X E)
  (ha:PA X (e::es) t) (hdb:(x ==("__debug__":Str))=false:=by decide) (he:bm (e::es) X.env=(false,eval e X.env)::bm es X.env:=by rfl) (hpl:(backTo pos (bm es X.env)).any (·.1)=false:=by rfl):
  PE X (.Call (.Name x p) (e::es) [] pos) (vW C sp dvs E t):=by
 intro Y s U H Q I h;refine bv (bg I hg hm ?_ hdb);refine W.callWith_K (h₀:=X.base) I.ok.mod.kin M.kp (ax (ha pos Y s U H _ I h) λus s1 ⟨vs,H1,I1,r,z,q⟩=>⟨I1.bF,?_⟩) he hpl;exact lB M F hh hr hb hd hx (by rw[nil_append,<-r.length];exact Nat.le_of_lt (cH z)) I1 r q
structure Fd (K:W.Frag) (C:Addr):Prop where
 mks:bK K C=true
 init:W.findIn K (.ref C) "__init__"=some (some (.builtin "ValueError.__init__"))
 kp:W.keepIn K (.ref C)=true
 cls:ck K C
abbrev Ao (C:Addr)(t:TA):TE:=λU H Q=>t U H λvs H1=>vs.length=1/\∀ x,H1 x=none->Q (.ref x) (upd H1 x (.exc C none [] true))
def rK {Q:VK}(M:Fd X.K C)(I:Inv X Y U H s)(r:Vals vs us)(h1:vs.length=1)(h:∀ x,H x=none->Q (.ref x) (upd H x (.exc C none [] true))):
  wpAny (model X.prog X.w) X.A (call (.ref C) us) (EP X Y U Q) X.xe s:=by
 have hq:=h (s.heap.objs.size+1) (I.hok.fresh (Nat.le_succ _));have I2:=Inv.Cj (C:=C) us I;obtain⟨u,rfl⟩:∃ u,us=[u]:=by
  have e:=r.length;rw[h1]at e
  match us,e with
  | [u],_=>exact⟨u,rfl⟩
 obtain⟨hh,g,d,tk,os⟩:=s;refine wpAny_call (zJ I.bF (by rw[sizeLine_eq];exact pc rfl) M.mks M.init (jQ (C:=C) (dx:=none) (fs:=[]) (fr:=true) I2 av M.cls λs' J=>?_));exact⟨rfl,.ref _,_,J,rfl,hq⟩
def wq (M:Fd X.K C)(hg:Gl X x)(hm:X.mg x=some (.ref C))(ha:PA X (e::es) t)(hdb:(x ==("__debug__":Str))=false:=by decide) (he:bm (e::es) X.env=(false,eval e X.env)::bm es X.env:=by rfl) (hpl:(backTo pos (bm es X.env)).any (·.1)=false:=by rfl):
  PE X (.Call (.Name x p) (e::es) [] pos) (Ao C t):=by
 intro Y s U H Q I h;refine bv (bg I hg hm ?_ hdb);refine W.callWith_K (h₀:=X.base) I.ok.mod.kin M.kp (ax (ha pos Y s U H _ I h) λus s1 ⟨vs,H1,I1,r,z,q⟩=>⟨I1.bF,?_⟩) he hpl;exact rK M I1 r z q
structure Kl (K:W.Frag) (B:Addr):Prop where
 ga:W.specialIn K (.ref B) "__getattribute__"=some (some (.builtin "type.__getattribute__"))
 rd:W.readsIn K B (.type "type")=true
 fi:W.findCls K (.ref B) (.type "type") "__init__"=some (.val (.builtin "ValueError.__init__"))
abbrev IB (K:W.Frag)(t:TA):TE:=λU H Q=>t U H λvs H1=>∃ a C dx fs fr v,vs=[.ref a,v]/\H1 a=some (.exc C dx fs fr)/\ck K C/\Q .non H1
def Fb {B:Addr}{pl:Sem Bool}{np:Pos}(b:Kl X.K B)(hg:Gl X x)(hm:X.mg x=some (.ref B))(ha:PA X (e::es) t)(hdb:(x ==("__debug__":Str))=false:=by decide)
  (hst:bm (e::es) X.env=(false,eval e X.env)::bm es X.env:=by rfl) (hpl:(backTo pos (bm es X.env)).any (·.1)=false:=by rfl)
  (ht:eval (.Call (.Attribute (.Name x np) "__init__" apos) (e::es) [] pos) X.env=(do
   let ov <-eval (.Name x np) X.env
   standAt apos.atName
   let(f,first) <-holding [ov] (getMethod ov "__init__" pl)
   callWith pos f first (backTo pos (bm (e::es) X.env)) (backToKw pos (keywordEach [] X.env))):=by rfl):
  PE X (.Call (.Attribute (.Name x np) "__init__" apos) (e::es) [] pos) (IB X.K t):=by
 intro Y s U H Q I h;refine W.methodCall_KW (pl:=pl) (bg I hg hm ?_ hdb) ht;refine W.method_cls I.bF b.ga (W.cls_value I.bF b.rd b.fi (by decide+kernel) ?_);refine PyProof.Rows.callWith_builtin1 (ax (ha pos Y _ U H _ (I.tok _) h) λus s1 ⟨vs,H1,I1,r,a,C,dx,fs,fr,v,ev,ea,c,q⟩=>?_) hst hpl;subst ev;cases r with
 |cons r1 r2=>
  cases r2 with
  |cons r3 r4=>
   cases r4;cases r1;exact rE I1 ea c λs' J=>⟨.non,H1,J,rfl,q⟩
structure KQ (K:W.Frag) (C f:Addr):Prop where
 ga:W.specialIn K (.ref C) "__getattribute__"=some (some (.builtin "type.__getattribute__"))
 rd:W.readsIn K C (.type "type")=true
 fi:W.findCls K (.ref C) (.type "type") "__init__"=some (.val (.ref f))
 kp:W.keepIn K (.ref f)=true
end
section
open PySem.Builtin PySem.Builtin.ObjectAttr
variable {prog:Program}{w:World}{A:Around}{E:K1}{s:Shared}{K:W.Frag}{x C:Addr}{ox:Obj}{odo:Option Obj}
structure wJ (K:W.Frag) (C:Addr):Prop where
 ha:W.findIn K (.ref C) "__class__"=some (some (.builtin "object.__class__"))
 hn:W.specialIn K (.builtin "object.__class__") "__get__"=some (some (.builtin "getset_descriptor.__get__"))
 htk:W.takesIn K (.builtin "object.__class__")=some true
def Ay {Q:KY}(X:K.In s.heap)(I:W.InstAt s.heap x ox C odo)(c:ck K C)(z:wJ K C)(hfo:W.findObj K C odo "__class__"=some (.bind (.builtin "getset_descriptor.__get__") (.builtin "object.__class__")))
  (h:Q (some (.ref C)) { s with toks:=s.toks+1 }):wpAny (model prog w) A (getAttr? (.ref x) "__class__") Q E s:=by
 obtain⟨hp,g,d,t,os⟩:=s;have L0:=I.type (M:=model prog w);have L1:=looks_findIn (M:=model prog w) X c.ga;have L2':=looks_findIn (M:=model prog w) X c.gn;have L3:=looks_find (M:=model prog w) X I hfo;have L4:Looks (model prog w) hp (isInstance (.ref x) (.type "BaseException")) true:=I.type.andThen (looks_mroIn X (c.sub (by decide+kernel)));unfold getAttr? getAttrBy? getAttrBy;refine ad (wpAny_mkText (ad (wpAny_attempt (bd (ad (L0.at (ad (L1.at ?_))))))));have e1:(Value.builtin "BaseException.__getattribute__" ==Value.builtin "object.__getattribute__")=false:=by decide+kernel
 dsimp only;rw[e1,Bool.and_false];show wpAny _ _ (getAttrByItsOwn _ _ _ _ _ _) _ _ _;unfold getAttrByItsOwn hookBefore;refine ad (L2'.at ?_);refine ad (wpAny_attempt (bd ?_));unfold callGetattribute;show wpAny _ _ (boundAndCalled _ _ _) _ _ _;unfold boundAndCalled;rw[PySem.F.attr_ValueError.ga.bind];refine ad (am (wpAny_call (codeAny_call_builtin PySem.F.attr_ValueError.ga.plain PySem.F.entry_bexc_ga ?_)));refine @check_slot (model prog w) _ _ _ "BaseException.__getattribute__" "BaseException" "__getattribute__" (.ref x) [.str "__class__" t] [] _ nY lp L4 (PySem.F.args_bexc_ga (.ref x) (.str "__class__" t)) ?_;unfold Builtin.«object.__getattribute__»;refine ad (am (ad (am (ad (L0.at (ad (L3.at ?_)))))));show wpAny _ _ (holding [_] (call _ [_,.ref x,.ref C]) >>= ret) _ _ _;refine ad (bd (wpAny_call (class_get (s:=⟨hp,g,d,t+1,os⟩) (ox:=ox) (od:=odo) X I (c.sub (by decide+kernel)) ?_)));refine am ?_;show wpAny _ _ (handedOut (.ref C)) _ _ _;exact handed_on rfl (am h)
def yx (c:ck K C)(z:wJ K C):W.findObj K C odo "__class__"=some (.bind (.builtin "getset_descriptor.__get__") (.builtin "object.__class__")):=by
 obtain⟨cd,hc,_⟩:=W.any_some c.hd;unfold W.findObj;rw[hc,Option.bind_some,z.ha,Option.bind_some];simp[z.hn,z.htk]
def pe (c:ck K C)(z:wJ K C):W.KitX K (.ref x) (.ref C) (λh=>W.InstAt h x ox C odo) where
 ty:=λ_ _ _ I=>I.type
 it:=λ_ _ X _=>by
  obtain⟨cdD,hcD,_⟩:=W.any_some c.hd;unfold W.clsIn at hcD
  split at hcD
  .rename_i c' d' cd' sl' ho;intro A' Q' E' s' k q;unfold isType loadHead;exact ad (wpAny_loadPart (k _ _ (X _ _ ho)) (am q))
  .cases hcD
 ne:=λh tp dd its n sl X htp=>by
  obtain⟨cdD,hcD,_⟩:=W.any_some c.hd;refine Bool.eq_false_iff.mpr λq=>?_
  have e:C=tp:=Value.ref.inj (beq_iff_eq.mp q);subst e;unfold W.clsIn at hcD
  split at hcD
  .rename_i c' d' cd' sl' ho;have z:=(X _ _ ho).symm.trans htp;cases z
  .cases hcD
 ca:=λX I k=>Ay X I c z (yx c z) k
end
section
variable {X:Cx}{Y:K2}{U:St}{H:Hp}{s:Shared}{a C:Addr}{dx:Option Addr}{fs:List (Str×V)}{fr:Bool}
def oO (I:Inv X Y U H s)(e:H a=some (.exc C dx fs fr)):∃ ox odo,W.InstAt s.heap a ox C odo:=by
 obtain⟨⟨vs,ho,_⟩,z⟩:=id (I.hok a _ e);rcases z with⟨rfl,_⟩|⟨d,rfl,_,_,_,mA,⟨od,es,ep,hod,_⟩,_⟩
 .exact⟨_,none,ho,rfl,rfl,True.intro⟩
 .exact⟨_,some od,ho,rfl,rfl,hod⟩
def yL {E:K1}{Q:K1}{cv:Value}{b:Bool}(I:Inv X Y U H s)(e:H a=some (.exc C dx fs fr))(c:ck X.K C)(z:wJ X.K C)(k:W.kitOne X.K (.ref C) cv=some b)
  (h:∀ tk,Q (.bool b) { s with toks:=tk }):wpAny (model X.prog X.w) A (call (.builtin "isinstance") [.ref a,cv]) Q E s:=by
 obtain⟨ox,odo,J⟩:=oO I e;exact W.kia_one (pe (ox:=ox) (odo:=odo) c z) I.bF J k (λz=>nomatch z) h
end
end L2
namespace L2
open PySem PySem.Spec PySem.W PyProof.Rows
variable {dx:Option Addr}
section
variable {X:Cx}{f:Str}{o value ex:Expr}{ta tv te:TE}{pos pos':Pos}{E:St->XK}
def rz {h:Heap}{a:Addr}{C:Addr}{vs:Array Value}{M:Model}(ho:h.get? a=some { cls:=.ref C,dict:=dx,data:=.fields vs }):W.Looks M h (isType (.ref a)) false:=by
 intro A Q E s k q;unfold isType loadHead;exact ad (wpAny_loadPart (k _ _ ho) (am q))
abbrev Ei (K:W.Frag)(E:St->XK)(te:TE):TS:=λD U H=>te U H λv H1=>∃ a C dx fs,v=.ref a/\H1 a=some (.exc C dx fs true)/\ck K C/\E U a (upd H1 a (.exc C dx fs false))
def yr (hx:Dm X E)(hc:X.calm=true)(he:PE X ex te):PS X (.Raise (some ex) none pos) (Ei X.K E te):=by
 intro Y s U H D I h;rw[arm_exec_Raise];simp only[evalOpt,Option.map];refine ad (wpAny_standAt ?_);unfold raiseStmt;refine ad (ad (ax (he Y s U H _ I h) λu s1 ⟨y,H1,I1,ry,a,C,dx,fs,ey,ea,c,q⟩=>ad (wpAny_standAt (am ?_))));subst ey;obtain rfl:u=Value.ref a:=ry;obtain⟨⟨vs,ho,hsz,h1,h2⟩,z⟩:=id (I1.hok a _ ea);have h1':=h1 rfl;have hq:X.xe (.ref a) s1:=by
  have J:Inv X [] U (upd H1 a (.exc C dx fs false)) s1:=by
   have J1:=I1.qT.write (x:=a) (e:=a) (o:=.exc C dx fs false) (t':=s1.toks) (h':=s1.heap) (by rw[ea];exact rfl) (.inl rfl) (λ_ _ _ q=>q) ⟨_,ho⟩ ?_
   .exact J1
   .refine⟨⟨vs,ho,hsz,(λy=>by cases y),h2⟩,?_⟩;rcases z with z|⟨d,ed,d1,z1,ne,r⟩
    .exact .inl z
    .exact .inr ⟨d,ed,by rw[af ne];exact d1,z1,ne,r⟩
  exact hx U _ s1 a C dx fs J (.inl ⟨_,vs,ho,rfl,h1'⟩) av q
 obtain⟨hp,g,d,tk,os⟩:=s1;have L0:Looks (model X.prog X.w) hp (typeOf (.ref a)) (.ref C):=(Looks.ld ho).andThen .now;have L1:Looks (model X.prog X.w) hp (isType (.ref a)) false:=rz ho;have L2':Looks (model X.prog X.w) hp (isInstance (.ref a) (.type "BaseException")) true:=L0.andThen (looks_mroIn I1.bF (c.sub (by decide+kernel)));have L5:Looks (model X.prog X.w) hp (typeOf (.ref C)) (.type "type"):=looks_typeIn I1.bF c.mt;have tt:(Value.type "type" ==Value.type "type")=true:=by decide
 repeat(first|simp only[Bool.false_eq_true,if_false,if_true,tt]|lk)
 rw[h1'];refine am ?_;rw[if_neg (by decide)];exact am (wpAny_raiseNew_none (I1.ok.hd hc) hq)
end
@[reducible]def Cx.aH (X:Cx) (e:Value):Cx:={ X with A:=X.A.mark (some e),calm:=false,xe:=λ_ _=>False }
variable {xe:K1}{ps:K2}{D:Ends}
section
variable {X:Cx}{Y:K2}{U:St}{H:Hp}{s:Shared}
def Cx.Ok.aH (ok:X.Ok)(e:Value):(X.aH e).Ok:=
 ⟨ok.mod,ok.kind,ok.glob,ok.blt,ok.above,ok.inj,ok.has,ok.cab,(λz=>by cases z),ok.frames,ok.stk,ok.exf,ok.bs,ok.bsz,ok.noex,ok.exfs,ok.g6,ok.frf⟩
def Inv.aH (I:Inv X Y U H s)(e:Value):Inv (X.aH e) Y U H s:=⟨I.ok.aH e,I.os,I.bare,I.base,I.loc,I.cell,I.free,I.freeC,I.pin,I.hok,I.len⟩
def Inv.iY {e:Value}(ok:X.Ok)(I:Inv (X.aH e) Y U H s):Inv X Y U H s:=⟨ok,I.os,I.bare,I.base,I.loc,I.cell,I.free,I.freeC,I.pin,I.hok,I.len⟩
def el {M:Model}{A:Around}{E:K1}{Q:KZ}{i:Nat}{n:Str}{pos:Pos}(I:Inv X Y U H s)(hN:X.N.Nodup)(hi:X.N[i]? =some n)(hn:X.env.scope.names.lookup n=some .local)
  (h:∀ s',Inv X Y (U.set i none) H s'->Q () s'):wpAny M A (do bindName X.env n .none;unbindBehindTheSuite X.env n pos) Q E s:=by
 have hcls:(X.env.scope.kind ==.class||(X.env.scope.kind ==.module&&X.env.locals != X.env.globals))=false:=by rw[I.ok.kind];rfl
 refine ad (wpAny_bindName (fY I hN hi (.inl hn) (v:=.non) rfl (λs1 I1=>?_) (.inr hn)));obtain⟨m,hm,hl⟩:=I1.loc;unfold unbindBehindTheSuite;refine wpAny_onRaise ?_;unfold unbindName;refine ad (wpAny_point (ad ?_));unfold deleteName;have hk:X.env.kindOf n=some .local:=hn;have hiσ:i<U.length:=by rw[I.len];exact(tz.mp hi).1
 have hmn:(m n).isSome=true:=by
  obtain⟨u,_,l⟩:=hl i n .non hi (by rw[getElem?_set_self hiσ]) (.inl hn);rcases l with⟨_,q⟩|⟨q,_⟩
  .rw[q];rfl
  .rcases q with q|q<;>(rw[hk]at q;cases q)
 simp only[hk,hcls];rw[if_neg (by decide)];refine ad (wpAny_nsDel_keeps hm λh2 v hn2 hs2=>?_);rw[hmn];simp only[if_true,Bool.not_true,Bool.false_eq_true,if_false];refine am (wpAny_point (h { s1 with heap:=h2 } ?_));obtain⟨oL,esL,epL,hoL,_⟩:=id hm;have yR:=I1.yR;refine⟨I1.ok,I1.os,I1.bare,⟨λb o e n hb hx=>?_,λb o e n hb hx=>?_,I1.base.free,λb o e hx=>?_,I1.base.tups,I1.base.frzs,I1.base.tbls⟩,⟨_,hn2,λj y v' e1 e2 e3=>?_⟩,λy c e=>?_,I1.free,I1.freeC,λp hp=>?_,λa u ha=>?_,by rw[length_set];exact I.len⟩
 .exact(hs2.2 b (pi (nw (ut e) I1.ok.above))).trans (I1.base.keep b o e n hb hx)
 .obtain⟨sl,q⟩:=I1.base.slot b o e n hb hx;exact⟨sl,(hs2.2 b (pi (nw (ut e) I1.ok.above))).trans q⟩
 .obtain⟨o',q⟩:=I1.base.there b o e hx;exact⟨o',(hs2.2 b (pi (nw (ut e) I1.ok.above))).trans q⟩
 .have hj:j≠i:=λz=>by rw[z,getElem?_set_self hiσ]at e2;cases e2
  rw[getElem?_set_ne (Ne.symm hj)]at e2;obtain⟨u,r,q⟩:=hl j y v' e1 (by rw[getElem?_set_ne (Ne.symm hj)];exact e2) e3;refine⟨u,r,?_⟩;rcases q with⟨k,e⟩|⟨k,c,e,z⟩
  .refine .inl ⟨k,?_⟩;have ny:y≠n:=λz=>hj (jt hN e1 (z▸hi))
   show(if y=n then v else m y)=some u;rw[if_neg ny];exact e
  .exact .inr ⟨k,c,e,z.sameBut hs2 (yR y c e)⟩
 .obtain⟨w',z⟩:=I1.cell y c e;exact⟨w',z.sameBut hs2 (yR y c e)⟩
 .obtain⟨e,n,ne,nf,d⟩:=I1.pin p hp;exact⟨(hs2.2 p.1 ne).trans e,n,ne,nf,d⟩
 .refine(I1.hok a u ha).du (λb o hb hq=>(hs2.2 b ?_).trans hq) (λ_ q=>q) λ_ _ q=>q
  rintro rfl;rcases hb with hb|hb
  .rw[<-hb,I1.free]at ha;cases ha
  .rw[I1.free]at hb;cases hb
@[reducible]def Cx.fm (X:Cx) (Y:K2) (xe:K1):Cx:={ X with pn:=X.pn++Y,xe:=xe }
def Cx.Ok.fm (ok:X.Ok)(Y:K2)(xe:K1):(X.fm Y xe).Ok:=
 ⟨ok.mod,ok.kind,ok.glob,ok.blt,ok.above,ok.inj,ok.has,ok.cab,ok.hd,ok.frames,ok.stk,ok.exf,ok.bs,ok.bsz,ok.noex,ok.exfs,ok.g6,ok.frf⟩
def Inv.fm (I:Inv X Y U H s)(xe:K1):Inv (X.fm Y xe) [] U H s:=
 ⟨I.ok.fm Y xe,I.os,I.bare,I.base,I.loc,I.cell,I.free,I.freeC,λp hp=>I.pin p (by simpa using hp),I.hok,I.len⟩
def Inv.fv (ok:X.Ok)(I:Inv (X.fm Y xe) ps U H s):Inv X Y U H s:=
 ⟨ok,I.os,I.bare,I.base,I.loc,I.cell,I.free,I.freeC,λp hp=>I.pin p (mem_append_left _ hp),I.hok,I.len⟩
def SP.fv {f:Flow}(ok:X.Ok)(h:SP (X.fm Y xe) ps D f s):SP X Y D f s:=by
 cases f with
 |next=>obtain⟨σ',H',I,q⟩:=h;exact⟨σ',H',I.fv ok,q⟩
 |brk=>obtain⟨σ',H',I,q⟩:=h;exact⟨σ',H',I.fv ok,q⟩
 |cont=>obtain⟨σ',H',I,q⟩:=h;exact⟨σ',H',I.fv ok,q⟩
 |ret u=>obtain⟨v,σ',H',I,r,q⟩:=h;exact⟨v,σ',H',I.fv ok,r,q⟩
def CT {body:List Stmt}{h0:ExceptHandler}{hs:List ExceptHandler}{pos:Pos}{E':St->XK}(I:Inv X Y U H s)(hstk:X.stack=X.env::X.outer)(hfr:X.env.frame=some X.env.locals)
  (hb:∀ xe,Dm (X.fm Y xe) E'->PassesOwn (model X.prog X.w) X.A X.env xe->wpAny (model X.prog X.w) X.A (execs body X.env) (SP (X.fm Y xe) [] D) xe s)
  (hh:∀ (U:St) (H:Hp) (s:Shared) (e C:Addr) (dx:Option Addr) (fs:List (Str×V)) (T:Addr),Inv X Y U H s->H e=some (.exc C dx fs false)->X.s₀.heap.objs.size<=T->H T=none->(∀ p ∈ X.pn++Y,p.1≠T)->uB s.heap e T .none->E' U e H->
   wpAny (model X.prog X.w) X.A (handleBy (.ref e) X.env (h0::hs)) (SP X Y D) X.xe s):
  wpAny (model X.prog X.w) X.A (exec (.Try body (h0::hs) [] [] pos) X.env) (SP X Y D) X.xe s:=by
 refine wpAny_Try_except (wpAny_mono (hb (λu s1=>wpAny (model X.prog X.w) X.A (noteFrame u X.env) (λ_ s2=>wpAny (model X.prog X.w) X.A (setFlight u none) (λ_ s3=>wpAny (model X.prog X.w) X.A (handleBy u X.env (h0::hs)) (SP X Y D) X.xe s3) X.xe s2) X.xe s1) ?_ PassesOwn.looking) (λf s1 h1=>?_) λ_ _ z=>z)
 .intro σ' H' s' e C dx fs J sf he q;exact ly (X:=X.fm Y _) J hstk hfr sf he λs2 T J2 _ hT hH hp st=>hh σ' H' s2 e C dx fs T (J2.fv I.ok) he hT hH hp st q
 .have h2:=SP.fv I.ok h1;cases f with
  |next=>exact wpAny_execs_nil h2
  |brk=>exact h2
  |cont=>exact h2
  |ret u=>exact h2
def nN {n x:Str}{np hpos:Pos}{b0:Stmt}{aH:List Stmt}{rest:List ExceptHandler}{i:Nat}{e C Ch T:Addr}{fs:List (Str×V)}{b:Bool}(I:Inv X Y U H s)(he:H e=some (.exc C dx fs false))
  (hT:X.s₀.heap.objs.size<=T) (hH:H T=none) (hp:∀ p ∈ X.pn++Y,p.1≠T) (st:uB s.heap e T .none) (c:ck X.K C) (ch:ck X.K Ch) (hsub:W.mroIn X.K C (.ref Ch)=some b) (hg:Gl X x) (hm:X.mg x=some (.ref Ch))
  (hN:X.N.Nodup) (hi:X.N[i]? =some n) (hn:X.env.scope.names.lookup n=some .local) (hdb:(x ==("__debug__":Str))=false)
  (yes:b=true->∀ s2,Inv (X.aH (.ref e)) Y (U.set i (some (.ref e))) H s2->wpAny (model X.prog X.w) (X.A.mark (some (.ref e))) (execs (b0::aH) X.env)
   (SP (X.aH (.ref e)) Y { nx:=λσ' H'=>D.nx (σ'.set i none) H',rt:=D.rt,bk:=λσ' H'=>D.bk (σ'.set i none) H',ct:=λσ' H'=>D.ct (σ'.set i none) H' }) (λ_ _=>False) s2)
  (no:b=false->wpAny (model X.prog X.w) X.A (handleBy (.ref e) X.env rest) (SP X Y D) X.xe s):
  wpAny (model X.prog X.w) X.A (handleBy (.ref e) X.env (.ExceptHandler (some (.Name x np)) (some n) (b0::aH) hpos::rest)) (SP X Y D) X.xe s:=by
 have I':=I.aH (.ref e);refine wpAny_handleBy_cons (codeAny_handlers_test (bg (X:=X.aH (.ref e)) I' hg hm ?_ hdb)) (by intro q;cases q);obtain⟨⟨vs,ho,hsz,h1⟩,z⟩:=id (I.hok e _ he);have L0:Looks (model X.prog X.w) s.heap (typeOf (.ref e)) (.ref C):=(Looks.ld ho).andThen .now;have L1:Looks (model X.prog X.w) s.heap (typeOf (.ref Ch)) (.type "type"):=looks_typeIn I.bF ch.mt;have L2':Looks (model X.prog X.w) s.heap (isInstance (.ref Ch) (.type "tuple")) false:=L1.andThen (Looks.of_pure tc_notTuple);have L3:Looks (model X.prog X.w) s.heap (isType (.ref Ch)) true:=by
  obtain⟨cd,rs,hcl,_⟩:=ch.mro;unfold W.clsIn at hcl
  split at hcl
  .rename_i ho';intro A' Q' E' s' k q;unfold isType loadHead;exact ad (wpAny_loadPart (k _ _ (I.bF _ _ ho')) (am q))
  .cases hcl
 have L4:Looks (model X.prog X.w) s.heap (isSubtype (.ref Ch) (.type "BaseException")) true:=looks_mroIn I.bF (ch.sub (by decide+kernel));have L5:Looks (model X.prog X.w) s.heap (isSubtype (.ref C) (.ref Ch)) b:=looks_mroIn I.bF hsub;have L6:Looks (model X.prog X.w) s.heap (isExcClass (.ref Ch)) true:=by
  unfold isExcClass;exact L3.andThen L4
 unfold excMatches;refine ad (L2'.here ?_);rw[if_neg (by decide)];refine ad (am ?_);simp only[forIn_cons,forIn_nil];refine ad (ad (ad (L6.here ?_)));rw[if_neg (by decide)];refine am ?_;refine am ?_;refine ad (L0.here ?_);refine ad (ad (ad (L5.here ?_)));cases b with
 |false=>
  rw[if_neg (by decide)];refine am ?_;refine am ?_;refine am ?_;exact no rfl
 |true=>
  rw[if_pos rfl];refine am ?_;refine am ?_;refine am ?_;refine codeAny_handlers_suite_as (tL st λh2 nH oth _ th2 _=>?_);have I2:Inv X Y U H { s with heap:=h2 }:=by
   refine Inv.turned (it:=T) (h':=h2) (t':=s.toks) I (λb o hb hq=>(oth b hb).trans hq) hH ?_ (.inr hT) (λy cc hc z=>?_) hp
   .intro z;obtain⟨m,⟨o,es,ep,ho',hd,_⟩,_⟩:=I.loc;obtain⟨_,_,oT,ts,_,_,_,_,hT2,hd2,_⟩:=st;rw[z,ho']at hT2;cases hT2;rw[hd]at hd2;cases hd2
   .obtain⟨v,o,ho',hd⟩:=I.cell y cc hc;obtain⟨_,_,oT,ts,_,_,_,_,hT2,hd2,_⟩:=st;rw[<-z,ho']at hT2;cases hT2;rw[hd]at hd2;cases hd2
  refine fY (X:=X.aH (.ref e)) (I2.aH (.ref e)) hN hi (.inl hn) (v:=.ref e) rfl (λs3 I3=>?_) (.inr hn);refine wpAny_mono (yes rfl s3 I3) (λf s4 h4=>?_) λ_ _ z=>z.elim
  cases f with
  |next=>
   obtain⟨σ',H',J,q⟩:=h4;exact el (J.iY I.ok) hN hi hn λs5 J5=>⟨_,H',J5,q⟩
  |brk=>
   obtain⟨σ',H',J,q⟩:=h4;exact el (J.iY I.ok) hN hi hn λs5 J5=>⟨_,H',J5,q⟩
  |cont=>
   obtain⟨σ',H',J,q⟩:=h4;exact el (J.iY I.ok) hN hi hn λs5 J5=>⟨_,H',J5,q⟩
  |ret u=>
   obtain⟨v,σ',H',J,r,q⟩:=h4;exact el (J.iY I.ok) hN hi hn λs5 J5=>⟨v,_,H',J5,r,q⟩
end
end L2
namespace L2
open PySem PySem.Spec PyProof.Rows
def yy:bootBuiltins "isinstance"=some (.builtin "isinstance"):=by decide+kernel
section
variable {X:Cx}
abbrev HJ (K:W.Frag):V->V->Hp->VK->Prop:=λx y H Q=>∃ p xs i v,x=.ref p/\y=.int i/\ba K H p xs/\0<=i/\xs[i.toNat]? =some v/\Q v H
def xG:DM X (HJ X.K):=by
 intro Y s U H o i ov iv Q I ro ri h;obtain⟨p,xs,k,z,rfl,rfl,hq,h0,he,q⟩:=h;cases ro;obtain⟨t,rfl⟩:=ri;obtain⟨its,r,pl,hz⟩:=I.list hq;obtain⟨w,ew,rw'⟩:=r.get he;have hl:k.toNat<xs.length:=(tz.mp he).1;have hn:=fH;exact wpAny_getItem_list pl.isList h0 nofun (by simpa using ew) ⟨z,H,I,rw',q⟩
def i9 {xs:List V}{us:List Value}(r:Vals xs us){j:Nat}(h:j<us.toArray.size):∃ x,xs[j]? =some x/\RelV x (us.toArray[j]):=by
 have hl:=r.length;have hj:j<us.length:=by simpa using h
 have e:xs[j]? =some xs[j]:=li nofun;obtain⟨u,h1,h2⟩:=r.get e;refine⟨_,e,?_⟩;rw[li hj]at h1;cases h1;simpa using h2
end
section
variable {U:St}{H:Hp}{Q:VK}{D:Ends}{K:W.Frag}
abbrev sR (x:V)(H:Hp)(R:Bool->Hp->Prop):Prop:=∃ k,x=.bl k/\R k H
def j3 {α:Type}{xs:List α}{i:Int}(h0:0<=i)(h1:i<xs.length):∃ v,kU xs i=some v/\v ∈ xs:=by
 obtain⟨n,rfl⟩:=sw h0;have hn:n<xs.length:=by omega
 exact⟨xs[n],cT (li hn),List.getElem_mem hn⟩
end
section
variable {K:W.Frag}{g:TG}{tb:TS}{D:Ends}{U:St}{H:Hp}{tl:TE}{ta:TA}
end
def fits {n:Nat}(h:n<=1000):n<=bn:=Nat.le_of_lt (cH h)
section
variable {X:Cx}{H:Hp}{Q:VK}
end
section
variable {K:W.Frag}
end
section
variable {H H':Hp}{h c p:Addr}{m n:Int}{o:HO}
end
def FX (ns:List Int)(h:ns.length<=63):pz (ns.map V.int) none (some 63)=ns.map V.int:=by
 have e1:HT.nZ (ns.map V.int).length 0 none=0:=rfl;have e2:HT.nZ (ns.map V.int).length (ns.map V.int).length (some 63)=(ns.map V.int).length:=by
  show(if(63:Int)<0 then((63:Int)+((ns.map V.int).length:Int)).toNat else min (63:Int).toNat (ns.map V.int).length)=(ns.map V.int).length;rw[if_neg (by decide),ci];show min 63 ns.length=ns.length
  omega
 unfold pz;rw[e1,e2,drop_zero,Nat.sub_zero,List.take_length]
variable {ns:List Int}
def rN {i:Nat}{x:V}(h:(ns.map V.int)[i]? =some x):∃ z,x=V.int z:=by
 rw[io]at h;cases e:ns[i]? with
 |none=>rw[e]at h;cases h
 |some z=>rw[e]at h;exact⟨z,(Option.some.inj h).symm⟩
def xf {i:Int}(h0:0<=i)(h1:i<ns.length):∃ z,kU (ns.map V.int) i=some (.int z):=by
 obtain⟨v,a,m⟩:=j3 (xs:=ns.map V.int) h0 (by rw[ci];exact h1);obtain⟨z,_,rfl⟩:=List.mem_map.mp m;exact⟨z,a⟩
section
variable {H:Hp}{Q:VK}
end
section
variable {X:Cx}
end
abbrev C4 (X:Cx)(scope:Scope)(cl:List (Str×Addr))(N:List Str)(s:Shared)(H:Hp)(fp:List Addr)(xe:K1):Cx:=
 { X with N:=N,s₀:=s,H₀:=H,env:=compEnvC scope cl s.heap.objs.size X.env,outer:=X.stack,stack:=X.stack,ex:=fp,fn:=λ_=>false,xe:=xe }
abbrev KP (X:Cx)(E:XK)(u:Value)(s':Shared):Prop:=∃ (σ':St) (H':Hp) (e C:Addr) (dx:Option Addr) (fs:List (Str×V)),u=.ref e/\Inv X [] σ' H' s'/\yd X.s₀.heap.objs.size X.pn H' s'.heap e/\H' e=some (.exc C dx fs false)/\E e H'
abbrev dB (X:Cx)(scope:Scope)(cl:List (Str×Addr))(N:List Str)(s:Shared)(H:Hp)(fp:List Addr)(E:XK):Cx:=C4 X scope cl N s H fp (KP (C4 X scope cl N s H fp λ_ _=>False) E)
variable {X:Cx}{scope:Scope}{cl:List (Str×Addr)}{s:Shared}{H:Hp}{fp:List Addr}{E:XK}
def tM {N:List Str}:Dm (dB X scope cl N s H fp E) (λ_=>E):=λσ' H' s' e C dx fs I sf he q=>
 ⟨σ',H',e,C,dx,fs,rfl,⟨⟨I.ok.mod,I.ok.kind,I.ok.glob,I.ok.blt,I.ok.above,I.ok.inj,I.ok.has,I.ok.cab,I.ok.hd,I.ok.frames,I.ok.stk,I.ok.exf,I.ok.bs,I.ok.bsz,I.ok.noex,I.ok.exfs,I.ok.g6,I.ok.frf⟩,I.os,I.bare,I.base,I.loc,I.cell,I.free,I.freeC,I.pin,I.hok,I.len⟩,sf,he,q⟩
structure aS (X:Cx) (scope:Scope) (cl:List (Str×Addr)) (xs:List Str) (fr:List Str) (sel:List Nat):Prop where
 clos:closureFor scope X.env=pure cl
 sub:∀ y c,cl.lookup y=some c->X.env.cells.lookup y=some c
 has:∀ y,((relabel scope X.env).names.lookup y=some .cell\/(relabel scope X.env).names.lookup y=some .free)->∃ c,cl.lookup y=some c
 kind:scope.kind=.function
 nocell:∀ y ∈ scope.names,y.2≠.cell
 names:∀ y ∈ scope.names,y.2=.local->scope.names.lookup y.1=some .local
 own:∀ x ∈ xs,scope.names.lookup x=some .local
 len:sel.length=fr.length
 out:∀ (j:Nat) (y:Str),fr[j]? =some y->∃ i,sel[j]? =some i/\X.N[i]? =some y/\X.env.scope.names.lookup y=some .cell/\(relabel scope X.env).names.lookup y=some .cell
 nd:(xs++fr).Nodup
abbrev dE (U:St)(sel:List Nat):St:=sel.map λi=>U.getD i none
abbrev LC (te:TE)(J:It)(σ₀:St)(H1:Hp)(Q:VK):Prop:=∀ D,H1 D=none->∃ W:Nat->Nat->St->Hp->Prop,(∃ m,W 0 m σ₀ (upd H1 D (.lst [])))/\∀ i m σ' H',W i m σ' H'->
 (J.stop i H'/\Q (.ref D) H')\/(J.go i H'/\∃ N:St->Hp->Prop,(∀ σ2 H2,N σ2 H2->∃ m',m'<m/\W (i+1) m' σ2 H2)/\
  ∀ x H'',J.yld i H' x H''->te (σ'.set 0 (some x)) H'' λv H3=>∃ zs,H3 D=some (.lst zs)/\zs.length<bn/\N (σ'.set 0 (some x)) (upd H3 D (.lst (zs++[v]))))
abbrev gate (env:Env):List Expr->Sem Bool
 | []=>pure true
 |c::_=>isTrue c env (eval c env)
variable {ifs:List Expr}{pos:Pos}
def sZ {M:Model}{A:Around}{elt target iter:Expr}{it acc:Value}{env:Env}{Q:PySem.Fin->Shared->Prop}{E:K1}(hi:ifs.length<=1)
  (h:wpAny M A (pyNext it) (λr s1=>match r with
   |none=>Q (.done .next) s1
   |some v=>wpAny M A (letOwnedTupleGo target it v) (λ_ s2=>wpAny M A (assign target env v) (λ_ s3=>wpAny M A (gate env ifs) (λok s4=>
    (ok=true->wpAny M A (eval elt env) (λx s5=>wpAny M A (call (.builtin "list.append") [acc,x]) (λ_ s6=>wpAny M A (again (.compLoop (.ListComp elt [⟨target,iter,ifs,0⟩] scope pos) 0 it acc env)) Q E s6) E s5) E s4)/\
    (ok=false->wpAny M A (again (.compLoop (.ListComp elt [⟨target,iter,ifs,0⟩] scope pos) 0 it acc env)) Q E s4)) E s3) E s2) E s1) E s):
  wpAny M A (compTurn (.ListComp elt [⟨target,iter,ifs,0⟩] scope pos) 0 it acc env) Q E s:=by
 have key:∀ {g:Sem Bool}{K:Sem PySem.Fin}{s:Shared},wpAny M A g (λok s4=>
    (ok=true->wpAny M A (eval elt env) (λx s5=>wpAny M A (call (.builtin "list.append") [acc,x]) (λ_ s6=>wpAny M A K Q E s6) E s5) E s4)/\
    (ok=false->wpAny M A K Q E s4)) E s->wpAny M A (g >>= λok=>if ok=true then(eval elt env >>= λx=>call (.builtin "list.append") [acc,x] >>= λ_=>pure ()) >>= λ_=>K else K) Q E s:=λ{g K s} h=>by
  refine ad (wpAny_mono h (λok s4 h4=>?_) λ_ _ e=>e);cases ok with
  |false=>exact h4.2 rfl
  |true=>exact ad (ad (wpAny_mono (h4.1 rfl) (λx s5 h5=>ad (wpAny_mono h5 (λ_ s6 h6=>am h6) λ_ _ e=>e)) λ_ _ e=>e))
 match ifs,hi with
 | [],_=>
  rw[compTurn_list1];refine ad (wpAny_standAt (ad (wpAny_mono h (λr s1 h1=>?_) λ_ _ e=>e)));cases r with
  |none=>exact am h1
  |some v=>
   refine ad (wpAny_mono h1 (λ_ s2 h2=>ad (wpAny_mono h2 (λ_ s3 h3=>?_) λ_ _ e=>e)) λ_ _ e=>e);exact key (g:=pure true) h3
 | [c],_=>
  unfold compTurn;simp only[List.getElem?_cons_zero,List.getElem?_cons_succ,List.getElem?_nil];dsimp only[forIn,List.forIn',List.forIn'.loop,forIn'];rw[if_neg (by decide),if_neg (by decide)];refine ad (wpAny_standAt (ad (wpAny_mono h (λr s1 h1=>?_) λ_ _ e=>e)));cases r with
  |none=>exact am h1
  |some v=>
   refine ad (wpAny_mono h1 (λ_ s2 h2=>ad (wpAny_mono h2 (λ_ s3 h3=>?_) λ_ _ e=>e)) λ_ _ e=>e);refine key ?_;rw[if_pos rfl];refine ad (ad (wpAny_mono h3 (λok s4 h4=>am ?_) λ_ _ e=>e));exact am h4
abbrev LCg (tg:TG)(tc:TT)(te:TE)(J:It)(σ₀:St)(H1:Hp)(Q:VK):Prop:=∀ D,H1 D=none->∃ W:Nat->Nat->St->Hp->Prop,(∃ m,W 0 m σ₀ (upd H1 D (.lst [])))/\∀ i m σ' H',W i m σ' H'->
 (J.stop i H'/\Q (.ref D) H')\/(J.go i H'/\∃ N:St->Hp->Prop,(∀ σ2 H2,N σ2 H2->∃ m',m'<m/\W (i+1) m' σ2 H2)/\
  ∀ x H'',J.yld i H' x H''->tg x σ' H'' λσ2 H2=>tc σ2 H2 λb H3=>(b=true->te σ2 H3 λv H4=>∃ zs,H4 D=some (.lst zs)/\zs.length<bn/\N σ2 (upd H4 D (.lst (zs++[v]))))/\(b=false->N σ2 H3))
abbrev yes:TT:=λ_ H Q=>Q true H
variable {te:TE}
def LC.g {J:It}{σ₀:St}{H1:Hp}{Q:VK}(h:LC te J σ₀ H1 Q):LCg (gc 0) yes te J σ₀ H1 Q:=λD hD=>by
 obtain⟨W,w0,turn⟩:=h D hD;refine⟨W,w0,λi m σ' H' w=>?_⟩;rcases turn i m σ' H' w with z|⟨go,N,hN,step⟩
 .exact .inl z
 .exact .inr ⟨go,N,hN,λx H'' y=>⟨λ_=>step x H'' y,λe=>nomatch e⟩⟩
abbrev Iw (X:Cx)(ifs:List Expr)(tc:TT):Prop:=ifs.length<=1/\∀ (Y:K2) (s:Shared) (U:St) (H:Hp) (Q:Bool->Hp->Prop),Inv X Y U H s->tc U H Q->wpAny (model X.prog X.w) X.A (gate X.env ifs) (TP X Y U Q) X.xe s
def ng:Iw X [] yes:=⟨Nat.zero_le _,λY s U H Q I q=>am ⟨H,I,q⟩⟩
def tF {c:Expr}{tc:TT}(h:PT X c tc):Iw X [c] tc:=⟨re _,h⟩
abbrev pG (xs:List Str):St:=xs.map λ_=>none
abbrev Ki (wi:TI)(te:TE)(sel:List Nat):TE:=λU H Q=>wi U H λJ H1=>LC te J (none::dE U sel) H1 Q
abbrev Gm (wi:TI)(tg:TG)(tc:TT)(te:TE)(xs:List Str)(sel:List Nat):TE:=λU H Q=>wi U H λJ H1=>LCg tg tc te J (pG xs++dE U sel) H1 Q
variable {xs fr:List Str}{sel:List Nat}{Y:K2}{U:St}{ok:Cx->Prop}
section
variable {X:Cx}
def Un.sameBut {fs ex:List Addr}{H':Hp}{h h1 h2:Heap}{C:Addr}(u:Un fs ex H H' h h1)(hs:Heap.SameBut C h1 h2)(hC:h.objs.size<=C):Un fs ex H H' h h2:=by
 have ne:∀ b o,h.get? b=some o->b≠C:=λb o e=>pi (nw (ut e) hC)
 refine⟨λb o e n hb hx=>(hs.2 b (ne b o e)).trans (u.keep b o e n hb hx),λb o e n hb hx=>?_,u.free,λb o e hx=>?_,u.tups,u.frzs,u.tbls⟩
 .obtain⟨sl,q⟩:=u.slot b o e n hb hx;exact⟨sl,(hs.2 b (ne b o e)).trans q⟩
 .obtain⟨o',q⟩:=u.there b o e hx;exact⟨o',(hs.2 b (ne b o e)).trans q⟩
def pK {h':Heap}{tk:Nat}{m':K3}
  (S:aS X scope cl xs fr sel) (I:Inv X Y U H s) (f2:∀ b ∈ fp,fO X Y H b) (fo:∀ b ∈ fp,b<s.heap.objs.size) (hns:h'.Ns s.heap.objs.size m') (keep:∀ b o,s.heap.get? b=some o->h'.get? b=some o):
  Inv (dB X scope cl (xs++fr) s H fp E) Y (pG xs++dE U sel) H { s with heap:=h',toks:=tk }:=by
 have stk:∀ b,b≠X.env.locals->b ∉ X.fs->b ∉ nD X.stack:=λb h1 h2 hb=>(lw.mp (I.gQ b hb)).elim h1 h2
 refine⟨⟨I.ok.mod,S.kind,I.ok.glob,I.ok.blt,re _,λy z c h1 h2=>I.ok.inj y z c (S.sub y c h1) (S.sub z c h2),λy hy=>S.has y hy,(λy c h=>nomatch h),I.ok.hd,I.ok.frames,.inl rfl,λb hb=>⟨pi (fo b hb),λy c h=>(f2 b hb).2.2.2.2.1 y c (S.sub y c h)⟩,I.bs,
  Nat.le_trans I.ok.bsz I.sz,λb o e hb=>?_,λb hb=>stk b (f2 b hb).2.1 (f2 b hb).2.2.1,I.stack,I.l9⟩,
  rfl,I.bare,Un.kept keep,⟨m',hns,λi y v e1 e2 e3=>?_⟩,λy c h=>?_,I.hok.fresh (re _),λy c h=>I.freeC y c (S.sub y c h),λp hp=>?_,I.hok.kept keep,?_⟩
 .rcases(f2 b hb).2.2.2.1 with z|z
  .exact I.ok.noex b o e z
  .exact absurd (nw (nw (ut e) I.ok.bsz) z) (Nat.lt_irrefl _)
 .have hln:(pG xs).length=xs.length:=ci ..
  by_cases hlt:i<xs.length
  .rw[getElem?_append_left (by rw[hln];exact hlt)]at e2;unfold pG at e2;rw[io,li hlt]at e2;cases e2
  .obtain⟨j,rfl⟩:∃ j,i=xs.length+j:=⟨i-xs.length,by omega⟩;have e1':fr[j]? =some y:=by
    have e1:(xs++fr)[xs.length+j]? =some y:=e1;rw[getElem?_append_right nofun,show xs.length+j-xs.length=j by omega]at e1;exact e1
   obtain⟨i,hi,hN,k1,k2⟩:=S.out j y e1';have e2':(dE U sel)[j]? =some (some v):=by
    rw[getElem?_append_right (by rw[hln];omega),hln,show xs.length+j-xs.length=j by omega]at e2;exact e2
   have e4:U[i]? =some (some v):=by
    unfold dE at e2';rw[io,hi]at e2';have e5:U.getD i none=some v:=Option.some.inj e2';rw[List.getD_eq_getElem?_getD]at e5;cases e6:U[i]? with
    |none=>rw[e6]at e5;cases e5
    |some z=>rw[e6]at e5;exact congrArg some e5
   obtain⟨m,hn,hl⟩:=I.loc;obtain⟨u,r,l⟩:=hl i y v hN e4 (.inr (.inl k1));refine⟨u,r,.inr ⟨.inl k2,?_⟩⟩;rcases l with⟨hk,_⟩|⟨_,c,hc,o,ho,hd⟩
   .have hk':X.env.scope.names.lookup y=some .local:=hk;rw[k1]at hk';cases hk'
   .obtain⟨c',hc'⟩:=S.has y (.inl k2);have:=(S.sub y c' hc').symm.trans hc;cases this;exact⟨c,hc',o,keep c o ho,hd⟩
 .obtain⟨v,o,ho,hd⟩:=I.cell y c (S.sub y c h);exact⟨v,o,keep c o ho,hd⟩
 .obtain⟨e,n,ne,nf,d⟩:=I.pin p hp;exact⟨keep p.1 p.2 e,n,pi (ut e),stk p.1 ne nf,d⟩
 .show(pG xs++dE U sel).length=(xs++fr).length;unfold dE pG;simp[S.len]
structure kL (X:Cx) (U:St) (E:XK):Prop where
 xok:∀ (H:Hp) (s:Shared) (e C:Addr) (dx:Option Addr) (fs:List (Str×V)),Inv X [] U H s->yd X.s₀.heap.objs.size X.pn H s.heap e->H e=some (.exc C dx fs false)->E e H->X.xe (.ref e) s
 stk:∃ e0 o0 L,X.stack=e0::o0/\e0.frame=some L/\X.env.frame=some L
abbrev Ka (X:Cx)(U:St)(e:Expr)(t:TE):Prop:=∀ (Y:K2) (s:Shared) (H:Hp) (Q:VK),Inv X Y U H s->t U H Q->wpAny (model X.prog X.w) X.A (eval e X.env) (EP X Y U Q) X.xe s
def sP {s3:Shared}{H3:Hp}{D:Addr}{use:Option (Value->Sem Unit)}{P:K1}(hx:kL X U E)
  (I3:Inv X Y U H3 s3) (f3:∀ b ∈ fp,fO X Y H3 b) (u:Value) (s':Shared) (h:(dB X scope cl (xs++fr) s3 H3 fp E).xe u s'):
  notedBy (model X.prog X.w) X.A (compEnvC scope cl s3.heap.objs.size X.env) (λx s2=>compPost (model X.prog X.w) X.A X.xe use P (.ref D) s3.heap.objs.size (.error x) s2) u s':=by
 obtain⟨σ',H',e,C,dx,fs,rfl,I,sf,he,q⟩:=h;obtain⟨e0,o0,L,hs,hf0,hf⟩:=hx.stk;refine qh (X:=C4 X scope cl (xs++fr) s3 H3 fp λ_ _=>False) (env:=compEnvC scope cl s3.heap.objs.size X.env) I hs hf0 hf sf he λh1 T I1 hT hH hp st=>?_
 obtain⟨m,hn,_⟩:=I1.loc;refine⟨m,hn,λh2 hs2 cenv _=>?_⟩;have fC:H' s3.heap.objs.size=none:=I1.free;have J:Inv X [] U H' { s' with heap:=h2 }:=by
  refine I3.qT.tw (ch:=fp) I1.os (I1.base.sameBut hs2 (re _)) (λb ob eb=>?_) I1.bare λb hb=>⟨(f3 b hb).2.2.2.1,(f3 b hb).2.1,(f3 b hb).2.2.2.2.1,λp hp=>(f3 b hb).2.2.2.2.2 p (by simpa using .inl (by simpa using hp))⟩
  refine(I1.hok b ob eb).du (λc w' hc' q'=>(hs2.2 c ?_).trans q') (λ_ q'=>q') λ_ _ q'=>q'
  intro z;rcases hc' with z2|z2
  .rw[z2]at z;rw[z,fC]at eb;cases eb
  .rw[z,fC]at z2;cases z2
 obtain⟨oe,vs,oT,ts,he1,hd1,h11,hTe,hoT,hdT,h3⟩:=id st;obtain⟨n1,n2⟩:=I1.xD hoT hdT;have neC:e≠s3.heap.objs.size:=λz=>by rw[z,fC]at he;cases he
 have e2:=(hs2.2 e neC).trans he1;have t2:=(hs2.2 T n1).trans hoT;have hz:3<ts.size:=(Array.getElem?_eq_some_iff.mp h3).1;unfold PySem.passOn;refine ad (ap e2 hd1 h11 ?_);rw[if_neg (show ¬ ((Value.ref T ==Value.none)=true) from by simp)];have fly:wpAny (model X.prog X.w) X.A (setFlight (.ref e) cenv.frame) (λ_ s3=>wpAny (model X.prog X.w) X.A (throw (Value.ref e):Sem Value) (λ_ _=>False) X.xe s3) X.xe { s' with heap:=h2 }:=by
  unfold setFlight;refine ad (ap e2 hd1 h11 ?_);rw[if_pos (show(Value.ref T != Value.none)=true from by simp)];refine wpAny_setField t2 hdT hz (wpAny_throw ?_);have other:∀ b,b≠T->(h2.update T (Obj.mapFields (·.setIfInBounds 3 (cenv.frame.elim Value.none λf=>rawInt f)))).get? b=h2.get? b:=λb hb=>Heap.get?_update_other _ _ (Ne.symm hb)
  have self':=Heap.get?_update_self (Obj.mapFields (·.setIfInBounds 3 (cenv.frame.elim Value.none λf=>rawInt f))) t2 (Obj.isFreed_of_fields (Obj.data_mapFields hdT _));obtain⟨k1,k2⟩:=J.xD t2 hdT;have hT':X.s₀.heap.objs.size<=T:=Nat.le_trans I3.sz hT;refine hx.xok H' _ e C dx fs (J.turned (it:=T) (t':=s'.toks) (λb o hb hq=>(other b hb).trans hq) hH k1 (.inr hT') k2 λp hpp=>hp p (show p ∈ X.pn by simpa using hpp)) (.inr ⟨T,hT',hH,hp,_,⟨oe,vs,_,_,(other e (Ne.symm hTe)).trans e2,hd1,h11,hTe,self',Obj.data_mapFields hdT _,by simp[hz];rfl⟩⟩) he q
 first
  |exact ad fly
  |exact ad (am (ad fly))
def k9 {elt iter tgt:Expr}{wi:TI}{tg:TG}{tc:TT}(hc:∀ {Y:K2}{U:St}{H:Hp}{s:Shared}{fp:List Addr},Inv X Y U H s->ok (dB X scope cl (xs++fr) s H fp E)) (hx:kL X U E) (S:aS X scope cl xs fr sel) (hi:BV ok X tgt iter wi)
  (hg:∀ (s:Shared) (H:Hp) (fp:List Addr),PG (dB X scope cl (xs++fr) s H fp E) tgt tg) (ht:∀ (s:Shared) (H:Hp) (fp:List Addr),Iw (dB X scope cl (xs++fr) s H fp E) ifs tc)
  (he:∀ (s:Shared) (H:Hp) (fp:List Addr),PE (dB X scope cl (xs++fr) s H fp E) elt te) (hs:∀ x,foldedSetIterable iter X.env x=pure x):Ka X U (.ListComp elt [⟨tgt,iter,ifs,0⟩] scope pos) (Gm wi tg tc te xs sel):=by
 intro Y s H Q I h;rw[eval_ListComp];refine wpAny_comprehension_free (use:=none) rfl hs S.clos S.kind S.names ?_;refine ax (hi Y s U H _ I h) λv s1 h1=>ax h1 λitv s2 h2=>?_
 obtain⟨it,fp,tn,J,H2,e,I2,T,nH,f2,h2⟩:=h2;subst e;refine wpAny_newObj_type ?_;have hD:H2 s2.heap.objs.size=none:=I2.hok.fresh (re _);have I3:Inv X Y U (upd H2 s2.heap.objs.size (.lst [])) { s2 with heap:=s2.heap.push { cls:=.type "list",dict:=none,data:=.seq ([]:List Value).toArray } }:=
  I2.laid (t':=s2.toks) (λb u e=>ul _ e) (re _) ⟨Nat.zero_le _,[],0,.nil,v0 _ rfl⟩
 have fo2:∀ b ∈ fp,b<s2.heap.objs.size:=λb hb=>by
  obtain⟨o,ho,_⟩:=T.obj _ _ nH b hb;exact ut ho
 have f3:∀ b ∈ fp,fO X Y (upd H2 s2.heap.objs.size (.lst [])) b:=λb hb=>⟨by rw[af (pi (fo2 b hb))];exact(f2 b hb).1,(f2 b hb).2⟩
 have st3:tn 0 (s2.heap.push { cls:=.type "list",dict:=none,data:=.seq ([]:List Value).toArray }):=T.keep _ _ _ nH λb hb o e=>ul _ e
 have fo3:∀ b ∈ fp,b<(s2.heap.push { cls:=.type "list",dict:=none,data:=.seq ([]:List Value).toArray }).objs.size:=λb hb=>by
  rw[Heap.size_push];exact Nat.lt_succ_of_lt (fo2 b hb)
 obtain⟨W,⟨m0,w0⟩,turn⟩:=h2 _ hD;generalize s2.heap.objs.size=D at*;generalize hs3:({ s2 with heap:=s2.heap.push { cls:=.type "list",dict:=none,data:=.seq ([]:List Value).toArray } }:Shared)=s3 at*;have st3':tn 0 s3.heap:=by rw[<-hs3];exact st3
 have fo3':∀ b ∈ fp,b<s3.heap.objs.size:=by rw[<-hs3];exact fo3
 refine wpAny_newFunctionEnv S.nocell (by intro y hy;simp at hy) (λh' hns hsb=>?_) S.kind;have keep:∀ b o,s3.heap.get? b=some o->h'.get? b=some o:=λb o e=>(hsb.2 b (pi (ut e))).trans (ul _ e)
 have I4:=pK (E:=E) (tk:=s3.toks+([]:List (Str×Value)).length) S I3 f3 fo3' hns keep;have st4:tn 0 h':=T.keep _ _ _ st3' λb hb o e=>keep b o e
 have stat:∀ {H':Hp},(∀ b ∈ fp,H' b=none)->∀ b ∈ fp,fO (dB X scope cl (xs++fr) s3 (upd H2 D (.lst [])) fp E) Y H' b:=λ{H'} hn b hb=>
  ⟨hn b hb,pi (fo3' b hb),λz=>(lw.mp (I3.gQ b z)).elim (f3 b hb).2.1 (f3 b hb).2.2.1,.inl hb,λy c hy=>(f3 b hb).2.2.2.2.1 y c (S.sub y c hy),λp hp=>(f3 b hb).2.2.2.2.2 p hp⟩
 have loop:codeAny (model X.prog X.w) X.A (.compLoop (.ListComp elt [⟨tgt,iter,ifs,0⟩] scope pos) 0 (.ref it) (.ref D) (compEnvC scope cl s3.heap.objs.size X.env))
   (compPost (model X.prog X.w) X.A X.xe none (EP X Y U Q) (.ref D) s3.heap.objs.size) { s3 with heap:=h',toks:=s3.toks+([]:List (Str×Value)).length }:=by
  refine codeAny_loop rfl (λn s'=>∃ i σ' H',Inv (dB X scope cl (xs++fr) s3 (upd H2 D (.lst [])) fp E) Y σ' H' s'/\tn i s'.heap/\(∀ b ∈ fp,H' b=none)/\W i n σ' H') (λn s5 hI=>?_) m0 ⟨0,_,_,I4,st4,λb hb=>(f3 b hb).1,w0⟩;show wpAny _ _ ((compTurn (.ListComp elt [⟨tgt,iter,ifs,0⟩] scope pos) 0 (.ref it) (.ref D) (compEnvC scope cl s3.heap.objs.size X.env)).onRaise (λx=>do noteFrame x (compEnvC scope cl s3.heap.objs.size X.env);theTreesLotGoes x)) _ _ s5;refine wpAny_noted ?_;refine sZ (ht s3 (upd H2 D (.lst [])) fp).1 ?_;have bad:=sP (scope:=scope) (cl:=cl) (xs:=xs) (fr:=fr) (P:=EP X Y U Q) (use:=none) (D:=D) hx I3 f3;obtain⟨i,σ5,H5,I5,st5,fr5,w5⟩:=hI;rcases turn i n σ5 H5 w5 with⟨stop,q⟩|⟨go,Nn,hN,step⟩
  .refine ax (T.done (dB X scope cl (xs++fr) s3 (upd H2 D (.lst [])) fp E) rfl rfl rfl (hc I3) i _ s5 σ5 H5 _ I5 (stat fr5) st5 stop) λr s6 ⟨hr,I6⟩=>?_
   subst hr;obtain⟨m,hn,_⟩:=I6.loc;refine⟨m,hn,λh'' hs''=>⟨.ref D,H5,I3.tw (ch:=fp) I6.os (I6.base.sameBut hs'' (re _)) (λb ob e=>?_) I6.bare λb hb=>⟨(f3 b hb).2.2.2.1,(f3 b hb).2.1,(f3 b hb).2.2.2.2.1,(f3 b hb).2.2.2.2.2⟩,rfl,q⟩⟩;refine(I6.hok b ob e).du (λc w' hc' q'=>(hs''.2 c ?_).trans q') (λ_ q'=>q') λ_ _ q'=>q'
   have fC:H5 s3.heap.objs.size=none:=I6.free;intro z;rcases hc' with z2|z2
   .rw[z2]at z;rw[z,fC]at e;cases e
   .rw[z,fC]at z2;cases z2
  .have fin:∀ {σ8:St}{H10:Hp}{s10:Shared},Inv (dB X scope cl (xs++fr) s3 (upd H2 D (.lst [])) fp E) Y σ8 H10 s10/\tn (i+1) s10.heap/\(∀ b ∈ fp,H10 b=none)->Nn σ8 H10->∃ m',m'<n/\∃ i σ' H',Inv (dB X scope cl (xs++fr) s3 (upd H2 D (.lst [])) fp E) Y σ' H' s10/\tn i s10.heap/\(∀ b ∈ fp,H' b=none)/\W i m' σ' H':=λ⟨I,t,f⟩ nn=>by
    obtain⟨m',hm,w10⟩:=hN _ _ nn;exact⟨m',hm,i+1,_,_,I,t,f,w10⟩
   refine ax (T.item (dB X scope cl (xs++fr) s3 (upd H2 D (.lst [])) fp E) rfl rfl rfl (hc I3) i _ s5 σ5 H5 _ I5 (stat fr5) st5 go) λr s6 ⟨u,hr,h6⟩=>?_
   subst hr;refine ax h6 λ_ s7 ⟨xv,H7,I7,r7,y7,st7,fr7⟩=>?_
   have I7':=I7.pinned (stat fr7) (T.obj _ _ st7);refine wpAny_mono (hg s3 _ fp _ s7 σ5 H7 xv u _ I7' r7 (step xv _ y7)) (λ_ s8 ⟨σ8,H8,I8,q8⟩=>?_) bad;refine wpAny_mono ((ht s3 _ fp).2 _ s8 σ8 H8 _ I8 q8) (λok s9 ⟨H9,I9,q9⟩=>?_) bad;have back:∀ {H10:Hp}{s10:Shared},Inv (dB X scope cl (xs++fr) s3 (upd H2 D (.lst [])) fp E) _ σ8 H10 s10->Inv (dB X scope cl (xs++fr) s3 (upd H2 D (.lst [])) fp E) Y σ8 H10 s10/\tn (i+1) s10.heap/\(∀ b ∈ fp,H10 b=none):=λ{H10 s10} I10=>⟨I10.dG,T.keep _ _ _ st7 λb hb o e=>(I10.pin (b,o) (im _ (im _ (bC hb e)))).1,λb hb=>by
    obtain⟨o,e,d⟩:=T.obj _ _ st7 b hb;exact(I10.pin (b,o) (im _ (im _ (bC hb e)))).2.1⟩
   refine⟨λek=>?_,λek=>am ⟨rfl,fin (back I9) (q9.2 ek)⟩⟩;refine wpAny_mono (he s3 _ fp _ s9 _ _ _ I9 (q9.1 ek)) (λuv s10 ⟨vv,H10,I10,r10,zs,hz,hzl,n10⟩=>?_) bad;refine wpAny_mono (gG (X:=dB X scope cl (xs++fr) s3 (upd H2 D (.lst [])) fp E) _ s10 _ H10 (.ref D) [vv] (.ref D) [uv] (λ_ H'=>H'=upd H10 D (.lst (zs++[vv]))) I10 rfl (.cons r10 .nil) ⟨D,zs,vv,rfl,rfl,hz,hzl,rfl⟩) (λ_ s11 ⟨_,H11,I11,_,e11⟩=>?_) bad;subst e11;exact am ⟨rfl,fin (back I11) n10⟩
 exact codeAny_compStart_list loop (T.self _ 0 _ _ _ st4 loop)
def lY {x:Str}{px:Pos}(S:aS X scope cl [x] fr sel):PG (dB X scope cl ([x]++fr) s H fp E) (.Name x px) (gc 0):=gp S.nd rfl (.inl (lookup_relabel_local (S.own x (lv ..)))) (.inr (lookup_relabel_local (S.own x (lv ..))))
abbrev KS (wi:TI):TI:=λU H R=>∃ R0:It->Hp->Prop,wi U H R0/\∀ J H,R0 J H->R J H
def BV.up {tg iter:Expr}{wi:TI}(h:BV ok X tg iter wi):BV ok X tg iter (KS wi):=λY s U H R I ⟨R0,q,m⟩=>
 ax (h Y s U H R0 I q) λv s1 h1=>wpAny_mono h1 (λitv s2 ⟨it,fp,tn,J,H',e,I,T,t0,f,r⟩=>⟨it,fp,tn,J,H',e,I,T,t0,f,m _ _ r⟩) λ_ _ e=>e
def pj {elt iter:Expr}{x:Str}{px:Pos}{wi:TI}(hc:∀ {Y:K2}{U:St}{H:Hp}{s:Shared}{fp:List Addr},Inv X Y U H s->ok (dB X scope cl (x::fr) s H fp E)) (hx:kL X U E) (S:aS X scope cl [x] fr sel) (hi:BV ok X (.Name x px) iter wi)
  (he:∀ (s:Shared) (H:Hp) (fp:List Addr),PE (dB X scope cl (x::fr) s H fp E) elt te) (hs:∀ x,foldedSetIterable iter X.env x=pure x):Ka X U (.ListComp elt [⟨.Name x px,iter,[],0⟩] scope pos) (Ki wi te sel):=λY s H Q I h=>
 k9 (tg:=gc 0) (ok:=ok) hc hx S hi.up (λs H fp=>lY S) (λ_ _ _=>ng) he hs Y s H Q I ⟨_,h,λ_ _ q=>q.g⟩
end
section
variable {U:St}{H:Hp}{Q:VK}{te tl:TE}{ta:TA}{sel:List Nat}{σ₀ rest:St}{K:W.Frag}
end
def cS {env:Env}:∀ {names:List (Str×NameKind)}{y:Str}{k':NameKind},(names.map λ(n,k)=>if(k ==NameKind.free&&env.scope.kind ==.function&&env.kindOf n ==some .cell) then(n,NameKind.cell) else(n,k)).lookup y=some k'->∃ k,(y,k) ∈ names/\(k'=k\/(k=.free/\k'=.cell))
 | [],_,_,h=>by simp at h
 |(n,k)::r,y,k',h=>by
  rw[map_cons,lookup_cons]at h
  by_cases hc:(k ==NameKind.free&&env.scope.kind ==.function&&env.kindOf n ==some .cell)=true
  .simp only[hc,if_true]at h
   by_cases e:y=n
   .subst e;simp at h;simp at hc;exact⟨k,lv,.inr ⟨hc.1.1,h.symm⟩⟩
   .rw[show(y ==n)=false from beq_eq_false_iff_ne.mpr e]at h;obtain⟨k2,m,q⟩:=cS (env:=env) h;exact⟨k2,dL _ m,q⟩
  .rw[Bool.not_eq_true]at hc;simp only[hc,Bool.false_eq_true,if_false]at h
   by_cases e:y=n
   .subst e;simp at h;exact⟨k,lv,.inl h.symm⟩
   .simp only[show(y ==n)=false from beq_eq_false_iff_ne.mpr e]at h;obtain⟨k2,m,q⟩:=cS (env:=env) h;exact⟨k2,dL _ m,q⟩
section
variable {K:W.Frag}
end
section
variable {K:W.Frag}{H:Hp}
end
section
variable {U:St}{H:Hp}{Q:VK}
end
abbrev notStar:Expr->Bool
 | .Starred ..=>false
 |_=>true
variable {es:List Expr}
def ab {e:Expr}{env:Env}(h:notStar e=true):bm (e::es) env=(false,eval e env)::bm es env:=by
 cases e<;>first|rfl|cases h
def eK {e:Expr}{t:TA}(ha:PE X e te)(hr:PA X es t)(h:notStar e=true:=by rfl):PA X (e::es) (BO te t):=zS ha hr (ab h)
section
variable {X:Cx}{Y:K2}{U:St}{H:Hp}{s:Shared}{h':Heap}
def Inv.jL {t':Nat}{ch:List Addr}{a:Addr}{o:HO}(I:Inv X Y U H s)(k:∀ b u,b ∉ ch->s.heap.get? b=some u->h'.get? b=some u) (hf:∀ b ∈ ch,fO X Y H b)
  (hp:s.heap.objs.size<=a) (new:au X.prog X.w (upd H a o) h' a o):Inv X Y U (upd H a o) { s with heap:=h',toks:=t' }:=by
 have hn:H a=none:=I.hok.fresh hp;have nch:∀ b u,H b=some u->b ∉ ch:=λb u e z=>by rw[(hf b z).1]at e;cases e
 refine I.step (g':=s.gens) (d':=s.drawn) (ch:=ch) (λb hb=>?_) (λb o _ _ hc e _=>k b o hc e) (λb o _ _ hc e _=>⟨o.slots,k b o hc e⟩) (λb o hc e n=>?_)
  (λb o hc e=>⟨o,k b o hc e⟩) (λb xs e=>?_) (λb ob u e=>?_) (λb ps e=>?_) (λm hm=>?_) (λb u e=>?_) I.bare
 .obtain⟨_,f1,_,f3,f4,f5⟩:=hf b hb;exact⟨f3,f1,f4,f5⟩
 .rw[af (pi (nw (ut e) hp))];exact n
 .rw[af (aC e hn)];exact e
 .rw[af (aC e hn)];exact e
 .exact⟨#[],by rw[af (aC e hn),e];simp⟩
 .obtain⟨o,es,ep,ho,r⟩:=hm;exact⟨o,es,ep,k _ o (λz=>(hf _ z).2.1 rfl) ho,r⟩
 .by_cases hb:b=a
  .subst hb;rw[av]at e;cases e;exact new
  .rw[af hb]at e;refine(I.hok b u e).du (λc v hc q=>k c v ?_ q) (λc q=>by rw[af (aC q hn)];exact q) λc xs q=>by rw[af (aC q hn)];exact q
   rcases hc with rfl|hc
   .exact nch _ _ e
   .exact nch _ _ hc
end
abbrev FV (l:Addr):It:=
 ⟨λi H=>∃ xs x,H l=some (.lst xs)/\xs[i]? =some x,λi H x H'=>∃ T y,H T=none/\x=.ref T/\H'=upd H T (.tup [.int i,y])/\∀ xs,H l=some (.lst xs)->xs[i]? =some y,λi H=>∃ xs,H l=some (.lst xs)/\xs.length<=i⟩
variable {elts:List Expr}
def um {P:Program}{w:World}{K:W.Frag}{k:Nat}(l e it:Addr)(hei:e≠it):
  Turn P w K Calm (.Tuple elts k pos) (FV l) [e,it] e (λi h=>(∃ old,IsEnum h e it ((i:Nat):Int) old)/\h.IsListIter it l i) where
 mem:=by simp
 obj:=λi h st b hb=>by
  obtain⟨⟨old,he⟩,hit⟩:=st;rcases lw.mp hb with rfl|hb
  .exact⟨_,he,λv z=>by
    have z':Data.fields _=Data.cell v:=z;cases z'⟩
  .have e':b=it:=by simpa using hb
   subst e';obtain⟨o,e,c,d⟩:=hit;exact⟨o,e,λv z=>by rw[d]at z;cases z⟩
 keep:=λi h h' st k=>by
  obtain⟨⟨old,he⟩,hit⟩:=st;exact⟨⟨old,k e (by simp) _ he⟩,hit.at λo q=>k it (by simp) o q⟩
 item:=by
  intro X hP hw hK hc i Y s U H E I hf st hg;subst hP hw hK;obtain⟨xs,x,hq,hx⟩:=hg;obtain⟨⟨old,he⟩,hit⟩:=st;obtain⟨its,rv,p,hz⟩:=I.list (ba.of hq);obtain⟨u,hu,ru⟩:=rv.get hx;have heN:H e=none:=(hf e (by simp)).1;have hes:e≠s.heap.objs.size:=pi (ut he);obtain⟨oi,hoi,_⟩:=id hit;have his:it≠s.heap.objs.size:=pi (ut hoi);refine wpAny_pyNext_enum_item he hit p.isList (x:=u) (by simpa using hu) hei λh1 heo hit1 ht1 hz1 hk1=>?_
  have I1:Inv X Y U (upd H s.heap.objs.size (.tup [.int i,x])) { s with heap:=h1,toks:=s.toks+1 }:=
   I.jL (ch:=[e,it]) (λb o hb q=>hk1 b o (λz=>hb (by simp[z])) (λz=>hb (by simp[z])) q) hf (re _)
    ⟨fits (pc rfl),[.int i s.toks,u],.cons ⟨_,rfl⟩ (.cons ru .nil),⟨_,ht1,rfl,_,rfl⟩⟩
  refine⟨_,rfl,wpAny_letOwnedTupleGo_enum heo λh2 he2 hs2=>?_⟩;obtain⟨f0,f1,f2,f3,f4,f5⟩:=hf e (by simp);have I2:=I1.turned (h':=h2) (t':=s.toks+1) (it:=e) (λb o hb q=>(hs2.2 b hb).trans q) (by rw[af hes];exact heN) f1 f3 f4 f5;refine⟨.ref s.heap.objs.size,_,I2,rfl,⟨_,x,I.hok.fresh (re _),rfl,rfl,λys hy=>?_⟩,⟨⟨_,by simpa using he2⟩,hit1.at λo q=>(hs2.2 it hei.symm).trans q⟩,λb hb=>?_⟩
  .rw[hq]at hy;cases hy;exact hx
  .have hb':b≠s.heap.objs.size:=by
    rcases lw.mp hb with rfl|hb
    .exact hes
    .have e':b=it:=by simpa using hb
     subst e';exact his
   rw[af hb'];exact(hf b hb).1
 done:=by
  intro X hP hw hK hc i Y s U H E I hf st hg;subst hP hw hK;obtain⟨xs,hq,hx⟩:=hg;obtain⟨⟨old,he⟩,hit⟩:=st;obtain⟨its,rv,p,hz⟩:=I.list (ba.of hq);obtain⟨f0,f1,f2,f3,f4,f5⟩:=hf it (by simp);have hl:=rv.length;exact wpAny_pyNext_enum_end (I.ok.hd hc) he hit p.isList (by simp;omega) λh' eb=>⟨rfl,I.turned (t':=s.toks) (λb o hb q=>eb b o hb q) f0 f1 f3 f4 f5⟩
 self:=λ_ _ _ _ _ st h=>by
  obtain⟨⟨old,he⟩,hit⟩:=st;exact wpAny_pyIter_enum he h
def f6:bootBuiltins "enumerate"=some (.type "enumerate"):=by decide+kernel
abbrev G0 (ta:TA):TI:=λU H R=>ta U H λvs H1=>∃ l,vs=[.ref l]/\(∃ xs,H1 l=some (.lst xs))/\R (FV l) H1
def BB {k:Nat}{a:Expr}{ta:TA}{p pos':Pos}(hg:Gl X "enumerate") (hm:X.mg "enumerate"=none) (ha:PA X [a] ta) (hs:bm [a] X.env=[(false,eval a X.env)]:=by rfl):
  PI X (.Tuple elts k pos') (.Call (.Name "enumerate" p) [a] [] pos) (G0 ta):=by
 intro Y s U H R I h;refine Call_ (bN I hg hm f6 (PyProof.Rows.callWith_type1 (ax (ha pos Y s U H _ I h) λus s1 ⟨vs,H1,I1,r1,q1⟩=>?_) hs rfl));obtain⟨l,e,⟨xs,hl⟩,q⟩:=q1;subst e;cases r1 with
 |cons r rr=>
  cases rr;cases r;obtain⟨z,its,n,r,hlen,e⟩:=I1.oY hl;refine call_enumerate_1 e λh' he hit hsz hk=>?_
  refine wpAny_pyIter_enum he ?_;refine⟨s1.heap.objs.size+1,[s1.heap.objs.size+1,s1.heap.objs.size],_,_,H1,rfl,I1.kept (t':=s1.toks) hk,um l _ _ (Nat.succ_ne_self _),⟨⟨_,he⟩,hit⟩,λb hb=>?_,q⟩;have hb':s1.heap.objs.size<=b:=by
   rcases lw.mp hb with rfl|hb
   .exact Nat.le_succ _
   .have e':b=s1.heap.objs.size:=by simpa using hb
    exact Nat.le_of_eq e'.symm
  exact I1.lL hb' (I1.hok.fresh hb')
section
variable {g:TG}{tb:TS}{D:Ends}{U:St}{H:Hp}{ta:TA}
end
section
variable {X:Cx}
abbrev Bl:V->List V->Hp->VK->Prop:=λx vs H Q=>∃ l xs i y,x=.ref l/\vs=[.int i,y]/\H l=some (.lst xs)/\0<=i/\i<=xs.length/\xs.length<bn/\Q .non (upd H l (.lst (xs.take i.toNat++y::xs.drop i.toNat)))
def Vals.take':∀ {xs:List V}{us:List Value}(n:Nat),Vals xs us->Vals (xs.take n) (us.take n)
 |_,_,0,_=>by simpa using Paired.nil
 |_,_,n+1,.nil=>.nil
 |_,_,n+1,.cons r t=>.cons r (Vals.take' n t)
def Vals.drop':∀ {xs:List V}{us:List Value}(n:Nat),Vals xs us->Vals (xs.drop n) (us.drop n)
 |_,_,0,r=>r
 |_,_,n+1,.nil=>.nil
 |_,_,n+1,.cons r t=>Vals.drop' n t
def uZ:Jo X "list.insert" Bl:=by
 intro Y s U H x vs v us Q I rx rv h;obtain⟨l,xs,i,y,rfl,rfl,hH,h0,h1,hz,q⟩:=h;cases rx;obtain⟨u,u2,rfl,ru,ru2⟩:=vals2 rv;obtain⟨t,rfl⟩:=ru;obtain⟨z,its,n,r,hl,e⟩:=I.oY hH;have hk:i.toNat<=its.length:=by omega
 have hn:=fH;have hfit:¬ (!Builtin.List.listFitsIndex i)=true:=by
  rw[fitsIndex_both (k:=i) nofun nofun]
  decide
 have hsz:its.toArray.size<=bn:=by rw[ii];omega
 have hmt:=AutoSeq1.list_insert_list_int_val_1 l its.toArray n i t u2 hfit hsz;refine call_meets F.slot_list_insert ⟨_,e,rfl⟩ F.entry_list_insert (F.args_list_insert_3 _ _ _) hmt ⟨e,?_⟩;refine⟨.non,_,I.D6 (its':=its.take i.toNat++u2::its.drop i.toNat) hH e ?_ ?_ ?_,rfl,q⟩
 .have ek:(if i<0 then(i+(its.toArray.size:Int)).toNat else min i.toNat its.toArray.size)=i.toNat:=by
   rw[if_neg nofun,ii];exact Nat.min_eq_left hk
  show((its.toArray.extract 0 (if i<0 then(i+(its.toArray.size:Int)).toNat else min i.toNat its.toArray.size)).push u2++its.toArray.extract (if i<0 then(i+(its.toArray.size:Int)).toNat else min i.toNat its.toArray.size))=_;rw[ek];apply Array.ext';simp;exact List.take_of_length_le (by rw[jp];omega)
 .exact(Vals.take' i.toNat r).append (.cons ru2 (Vals.drop' i.toNat r))
 .rw[cr,length_cons,dl,jp]
  omega
end
section
variable {K:W.Frag}{r:V->List V->Hp->VK->Prop}{to:TE}{t:TA}{U:St}{H:Hp}{Q:VK}
end
section
variable {H H1 H2:Hp}{p h c:Addr}{o:HO}{m:Int}
end
section
variable {H H':Hp}{xs ys:List V}{f:Nat->Int×Int}
end
section
variable {X:Cx}{a b c d:Expr}{ta tb tc td:TE}{pos:Pos}
end
section
variable {K:W.Frag}{U:St}{H:Hp}{Q:VK}{ta tb tc td tv:TE}{t:TA}{f m:Str}{D:Ends}{C:Addr}{sp:Sp}{dvs:List V}{E:XK}
end
section
variable {g:TG}{tb:TS}{D:Ends}{U:St}{H:Hp}{ta:TA}
end
section
variable {C:Addr}{H H':Hp}{S D h c:Addr}{rs:List Rec}{r:Rec}
end
section
variable {X:Cx}
end
end L2
namespace L2
end L2
namespace L2
open PySem PySem.Spec PyProof.Rows
section
variable {C:Addr}{H HF:Hp}{S D h c:Addr}{rs:List Rec}{r':Rec}
end
section
variable {X:Cx}
end
structure IA (K:W.Frag) (C:Addr):Prop where
 ha:W.findIn K (.ref C) "__class__"=some (some (.builtin "object.__class__"))
 hn:W.specialIn K (.builtin "object.__class__") "__get__"=some (some (.builtin "getset_descriptor.__get__"))
 htk:W.takesIn K (.builtin "object.__class__")=some true
 hm:W.mroIn K C (.type "object")=some true
end L2
namespace L2
open PySem PySem.Spec PySem.W PyProof.Rows
abbrev aU (tp:Bool)(h:Heap)(j b:Addr)(k:Nat):Prop:=match tp with
 |true=>h.IsTupleIter j b k
 |false=>h.IsListIter j b k
abbrev bw (tp:Bool)(h:Heap)(b:Addr)(xs:Array Value):Prop:=match tp with
 |true=>h.IsTuple b xs
 |false=>h.IsList b xs
variable {tp:Bool}{h:Heap}{k:Nat}
def aU.to {h':Heap}{j b:Addr}(g:aU tp h j b k)(e:∀ o,h.get? j=some o->h'.get? j=some o):aU tp h' j b k:=by
 cases tp
 .obtain⟨o,e1,r⟩:=(show h.IsListIter j b k from g);exact⟨o,e o e1,r⟩
 .obtain⟨o,e1,r⟩:=(show h.IsTupleIter j b k from g);exact⟨o,e o e1,r⟩
def bw.to {h':Heap}{b:Addr}{xs:Array Value}(g:bw tp h b xs)(e:∀ o,h.get? b=some o->h'.get? b=some o):bw tp h' b xs:=by
 cases tp
 .obtain⟨o,e1,r⟩:=(show h.IsList b xs from g);exact⟨o,e o e1,r⟩
 .obtain⟨o,e1,r⟩:=(show h.IsTuple b xs from g);exact⟨o,e o e1,r⟩
def aU.lt {tp:Bool}{h:Heap}{j b:Addr}{k:Nat}(g:aU tp h j b k):j<h.objs.size:=by
 cases tp
 .obtain⟨o,e1,r⟩:=(show h.IsListIter j b k from g);exact ut e1
 .obtain⟨o,e1,r⟩:=(show h.IsTupleIter j b k from g);exact ut e1
def bw.lt {tp:Bool}{h:Heap}{b:Addr}{xs:Array Value}(g:bw tp h b xs):b<h.objs.size:=by
 cases tp
 .obtain⟨o,e1,r⟩:=(show h.IsList b xs from g);exact ut e1
 .obtain⟨o,e1,r⟩:=(show h.IsTuple b xs from g);exact ut e1
variable {Q:KY}{c:Addr}{T:Int}{fb:Bool}{oT:Obj}{elts:List Expr}{pos:Pos}
section
variable {prog:Program}{w:World}{A:Around}{E:K1}{s:Shared}
def wm {j b:Addr}{xs:Array Value}{x:Value}{Q:K1}(g:s.heap.IsTupleIter j b k)(t:s.heap.IsTuple b xs)(hx:xs[k]? =some x)
  (q:∀ h',h'.IsTupleIter j b (k+1)->Heap.SameBut j s.heap h'->Q x { s with heap:=h' }):wpAny (model prog w) A (Builtin.SmallTypes.nextOf (.ref j)) Q E s:=by
 obtain⟨o1,e1,c1,d1⟩:=id g;obtain⟨o2,e2,_,n2,d2⟩:=t;unfold Builtin.SmallTypes.nextOf;refine ad (wpAny_callSpecial?_slot (name:=Str.ofString "__next__") g.typeIs F.slot_tuple_iterator_next (wpAny_call_entry F.slot_tuple_iterator_next g.typeIs F.entry_tuple_iterator_next ?_ (F.args_tuple_iterator_next_1 _)));show wpAny _ _ (field (.ref j) 0 >>= _) _ _ s;refine ad (ap e1 d1 (x:=.ref b) rfl ?_);show wpAny _ _ (if(Value.ref b ==Value.none)=true then _ else _) _ _ s;rw[if_neg (show ¬ ((Value.ref b ==Value.none)=true) from Bool.false_ne_true)];show wpAny _ _ (field (.ref j) 1 >>= _) _ _ s;refine ad (ap e1 d1 (x:=.int k 0) rfl ?_);show wpAny _ _ (seqItems? (.ref b) >>= _) _ _ s;refine ad (wpAny_seqItems e2 d2 ?_);simp only[sn,hx];refine ad (wpAny_setField e1 d1 (by simp) (am ⟨x,rfl,am (q _ ?_ (Heap.SameBut.update ..))⟩));refine⟨_,Heap.get?_update_self _ e1 (Obj.isFreed_of_fields (Obj.data_mapFields d1 _)),(Obj.cls_mapFields ..).trans c1,?_⟩;rw[Obj.data_mapFields d1];simp[rawInt]
def tQ {j b:Addr}{xs:Array Value}{Q:K1}(hh:A.handled=none)(g:s.heap.IsTupleIter j b k)(t:s.heap.IsTuple b xs)(hx:xs[k]? =none)
  (q:∀ h' e,Heap.ExtBut j s.heap h'->(∃ o,h'.get? e=some o/\o.cls=.type "StopIteration")->E (.ref e) { s with heap:=h' }):wpAny (model prog w) A (Builtin.SmallTypes.nextOf (.ref j)) Q E s:=by
 obtain⟨o1,e1,c1,d1⟩:=id g;obtain⟨o2,e2,_,n2,d2⟩:=t;unfold Builtin.SmallTypes.nextOf;refine ad (wpAny_callSpecial?_slot (name:=Str.ofString "__next__") g.typeIs F.slot_tuple_iterator_next (wpAny_call_entry F.slot_tuple_iterator_next g.typeIs F.entry_tuple_iterator_next ?_ (F.args_tuple_iterator_next_1 _)));show wpAny _ _ (field (.ref j) 0 >>= _) _ _ s;refine ad (ap e1 d1 (x:=.ref b) rfl ?_);show wpAny _ _ (if(Value.ref b ==Value.none)=true then _ else _) _ _ s;rw[if_neg (show ¬ ((Value.ref b ==Value.none)=true) from Bool.false_ne_true)];show wpAny _ _ (field (.ref j) 1 >>= _) _ _ s;refine ad (ap e1 d1 (x:=.int k 0) rfl ?_);show wpAny _ _ (seqItems? (.ref b) >>= _) _ _ s;refine ad (wpAny_seqItems e2 d2 ?_);simp only[sn,hx];refine ad (wpAny_rule (ad (wpAny_setField e1 d1 (by simp) ?_)));show wpAny _ _ (newExc (.type "StopIteration") [] >>= _) _ _ _;refine ad ?_;simp only[newExc,newTuple];refine ad (wpAny_newObj_type ?_ (by size_fits));refine ad (m:=firstArgMember _ _) (wpAny_of_eq (a:=Value.none) (by first|rfl|(simp only[firstArgMember];rfl)) ?_);refine wpAny_newObj_type ?_ (by size_fits);simp only[raiseNew];refine ad (wpAny_handled ?_);first|rw[show A.in1.handled=none from hh]|rw[hh]
 refine ad (am (wpAny_throw ?_));exact q _ _ (((Heap.SameBut.update ..).extBut.push _).push _) ⟨_,v0 _ rfl,rfl⟩
def eo {j b:Addr}{xs:Array Value}{x:Value}{Q:K1}(g:aU tp s.heap j b k)(t:bw tp s.heap b xs)(hx:xs[k]? =some x)
  (q:∀ h',aU tp h' j b (k+1)->Heap.SameBut j s.heap h'->Q x { s with heap:=h' }):wpAny (model prog w) A (Builtin.SmallTypes.nextOf (.ref j)) Q E s:=by
 cases tp
 .exact wpAny_nextOf_list_item g t hx q
 .exact wm g t hx q
def lM {j b:Addr}{xs:Array Value}{Q:K1}(hh:A.handled=none)(g:aU tp s.heap j b k)(t:bw tp s.heap b xs)(hx:xs[k]? =none)
  (q:∀ h' e,Heap.ExtBut j s.heap h'->(∃ o,h'.get? e=some o/\o.cls=.type "StopIteration")->E (.ref e) { s with heap:=h' }):wpAny (model prog w) A (Builtin.SmallTypes.nextOf (.ref j)) Q E s:=by
 cases tp
 .exact wpAny_nextOf_list_end hh g t hx q
 .exact tQ hh g t hx q
@[reducible]def bD (h:Heap) (z TI TO:Addr) (f0 f1:Value):Prop:=h.get? z=some { cls:=.type "zip",dict:=none,data:=.fields #[f0,f1,.bool false,.ref TI,.ref TO],slots:=#[] }
variable {z TI TO i1 i2 l1 l2:Addr}{k1 k2:Nat}{tp1 tp2:Bool}{xs ys:Array Value}{x y a b f1:Value}
def sM (D:ZipApart z TI TO i1 i2 l1 l2)(hz:bD s.heap z TI TO .none f1)(hI:IsPair s.heap TI (.ref i1) (.ref i2))(hO:IsPair s.heap TO a b)
  (g1:aU tp1 s.heap i1 l1 k1) (g2:aU tp2 s.heap i2 l2 k2) (t1:bw tp1 s.heap l1 xs) (t2:bw tp2 s.heap l2 ys) (hx:xs[k1]? =some x) (hy:ys[k2]? =some y)
  (q:∀ h',bD h' z TI TO (rawInt s.heap.objs.size) (.bool false)->IsPair h' TO x y->aU tp1 h' i1 l1 (k1+1)->aU tp2 h' i2 l2 (k2+1)->IsPair h' s.heap.objs.size x y->h'.objs.size=s.heap.objs.size+1->
   (∀ c o,c≠z->c≠TO->c≠i1->c≠i2->s.heap.get? c=some o->h'.get? c=some o)->Q (some (.ref s.heap.objs.size)) { s with heap:=h' }):wpAny (model prog w) A (pyNext (.ref z)) Q E s:=by
 have hZ:s.TypeIs (.ref z) "zip":=⟨_,hz,rfl⟩;unfold pyNext;refine ad (wpAny_attempt (wpAny_callSpecial?_slot (name:=Str.ofString "__next__") hZ F.slot_zip_next (wpAny_call_entry F.slot_zip_next hZ F.entry_zip_next ?_ (F.args_zip_next_1 _))));show wpAny _ _ (field (.ref z) 2 >>= _) _ _ _;refine ad (ap (x:=.bool false) hz rfl rfl ?_);show wpAny _ _ (field (.ref z) 3 >>= _) _ _ _;refine ad (ap (x:=.ref TI) hz rfl rfl ?_);refine ad (wpAny_seqItems hI rfl ?_);show wpAny _ _ (Builtin.SmallTypes.ownedTupleIsFree (.ref z) >>= _) _ _ _;refine ad ?_;unfold Builtin.SmallTypes.ownedTupleIsFree;refine ad (ap (x:=.none) hz rfl rfl (am ?_));simp only[if_true];refine ad (wpAny_rule ?_);refine ad (ap (x:=.ref TO) hz rfl rfl ?_);refine ad (wpAny_setField_rec hz (by simp) λp1 z1 b1=>?_)
 replace z1:bD p1 z TI TO .ellipsis f1:=z1
 refine ad ?_;simp only[List.zipIdx_cons,List.zipIdx_nil,forIn_cons,forIn_nil];refine ad (ad (wpAny_onRaise ?_));show wpAny _ _ (Builtin.SmallTypes.nextOf (.ref i1) >>= _) _ _ _;refine ad (eo (g1.to λo e=>b1.extBut _ o D.i1z e) (t1.to λo e=>b1.extBut _ o D.l1z e) hx λp2 g1b b2=>am ?_);have hO2:IsPair p2 TO a b:=b2.extBut _ _ D.TOi1 (b1.extBut _ _ D.TOz hO);refine ad (wpAny_seqItems hO2 rfl ?_);refine ad (wpAny_updateSeq_pair hO2 λp3 hO3 b3=>?_)
 replace hO3:IsPair p3 TO x b:=hO3
 refine ad (wpAny_letGo (am ?_));refine ad (ad (wpAny_onRaise ?_));show wpAny _ _ (Builtin.SmallTypes.nextOf (.ref i2) >>= _) _ _ _;refine ad (eo (g2.to λo e=>b3.extBut _ o D.TOi2.symm (b2.extBut _ o D.i12.symm (b1.extBut _ o D.i2z e))) (t2.to λo e=>b3.extBut _ o D.l2TO (b2.extBut _ o D.l2i1 (b1.extBut _ o D.l2z e))) hy λp4 g2b b4=>am ?_);have hO4:IsPair p4 TO x b:=b4.extBut _ _ D.TOi2 hO3;refine ad (wpAny_seqItems hO4 rfl ?_);refine ad (wpAny_updateSeq_pair hO4 λp5 hO5 b5=>?_)
 replace hO5:IsPair p5 TO x y:=hO5
 refine ad (wpAny_letGo (am (am ?_)));refine ad (wpAny_seqItems hO5 rfl ?_);refine ad (wpAny_newTuple ?_);have hsz:p5.objs.size=s.heap.objs.size:=by rw[b5.1,b4.1,b3.1,b2.1,b1.1]
 have z5:bD p5 z TI TO .ellipsis f1:=b5.extBut _ _ D.TOz.symm (b4.extBut _ _ D.i2z.symm (b3.extBut _ _ D.TOz.symm (b2.extBut _ _ D.i1z.symm z1)));have k5:∀ c o,c≠z->c≠TO->c≠i1->c≠i2->s.heap.get? c=some o->p5.get? c=some o:=λc o n1 n2 n3 n4 e=>b5.extBut _ _ n2 (b4.extBut _ _ n4 (b3.extBut _ _ n2 (b2.extBut _ _ n3 (b1.extBut _ _ n1 e))))
 have g15:aU tp1 p5 i1 l1 (k1+1):=g1b.to λo e=>b5.extBut _ o D.TOi1.symm (b4.extBut _ o D.i12 (b3.extBut _ o D.TOi1.symm e))
 have g25:aU tp2 p5 i2 l2 (k2+1):=g2b.to λo e=>b5.extBut _ o D.TOi2.symm e
 have zlt:z<p5.objs.size:=ut z5;show wpAny _ _ (Builtin.SmallTypes.ownedTupleHandOut (.ref z) (.ref p5.objs.size) >>= _) _ _ _;refine ad ?_;unfold Builtin.SmallTypes.ownedTupleHandOut;have z6:bD (p5.push { cls:=.type "tuple",data:=.seq #[x,y] }) z TI TO .ellipsis f1:=ul _ z5;refine ad (wpAny_setField_rec z6 (by simp) λp7 z7 b7=>?_)
 replace z7:bD p7 z TI TO (rawInt p5.objs.size) f1:=z7
 refine wpAny_setField_rec z7 (by simp) λp8 z8 b8=>?_
 replace z8:bD p8 z TI TO (rawInt p5.objs.size) (.bool false):=z8
 have up:∀ c o,c≠z->p5.get? c=some o->p8.get? c=some o:=λc o n1 e=>b8.extBut _ _ n1 (b7.extBut _ _ n1 (ul _ e))
 have hT:IsPair p8 p5.objs.size x y:=b8.extBut _ _ (Nat.ne_of_gt zlt) (b7.extBut _ _ (Nat.ne_of_gt zlt) (v0 _ rfl));have h8:p8.objs.size=p5.objs.size+1:=by rw[b8.1,b7.1,Heap.size_push]
 rw[hsz]at z8 hT h8;refine am ⟨_,rfl,?_⟩;rw[hsz];exact am (q p8 z8 (up _ _ D.TOz hO5) (g15.to λo e=>up _ o D.i1z e) (g25.to λo e=>up _ o D.i2z e) hT h8 λc o n1 n2 n3 n4 e=>up c o n1 (k5 c o n1 n2 n3 n4 e))
def Ew {Q:Fin->Shared->Prop}(hh:A.handled=none)(D:ZipApart z TI TO i1 i2 l1 l2)(hz:bD s.heap z TI TO .none f1)(hI:IsPair s.heap TI (.ref i1) (.ref i2))(hO:IsPair s.heap TO a b)
  (g1:aU tp1 s.heap i1 l1 k1) (g2:aU tp2 s.heap i2 l2 k2) (t1:bw tp1 s.heap l1 xs) (t2:bw tp2 s.heap l2 ys) (hx:xs[k1]? =none\/ys[k2]? =none)
  (q:∀ h' e,(∀ c o,c≠z->c≠TO->c≠i1->c≠i2->s.heap.get? c=some o->h'.get? c=some o)->(∃ o,h'.get? e=some o/\o.cls=.type "StopIteration")->E (.ref e) { s with heap:=h' }):
  wpAny (model prog w) A (Builtin.«zip.__next__» ⟨[.ref z],[]⟩) Q E s:=by
 show wpAny _ _ (field (.ref z) 2 >>= _) _ _ _;refine ad (ap (x:=.bool false) hz rfl rfl ?_);show wpAny _ _ (field (.ref z) 3 >>= _) _ _ _;refine ad (ap (x:=.ref TI) hz rfl rfl ?_);refine ad (wpAny_seqItems hI rfl ?_);show wpAny _ _ (Builtin.SmallTypes.ownedTupleIsFree (.ref z) >>= _) _ _ _;refine ad ?_;unfold Builtin.SmallTypes.ownedTupleIsFree;refine ad (ap (x:=.none) hz rfl rfl (am ?_));simp only[if_true];refine ad (wpAny_rule ?_);refine ad (ap (x:=.ref TO) hz rfl rfl ?_);refine ad (wpAny_setField_rec hz (by simp) λp1 z1 b1=>?_)
 replace z1:bD p1 z TI TO .ellipsis f1:=z1
 refine ad ?_;simp only[List.zipIdx_cons,List.zipIdx_nil,forIn_cons,forIn_nil];refine ad (ad (wpAny_onRaise ?_));show wpAny _ _ (Builtin.SmallTypes.nextOf (.ref i1) >>= _) _ _ _;cases e1:xs[k1]? with
 |none=>
  refine ad (lM hh (g1.to λo e=>b1.extBut _ o D.i1z e) (t1.to λo e=>b1.extBut _ o D.l1z e) e1 λp2 e b2 he=>?_);obtain⟨oe,ho,hc⟩:=he;have z2:bD p2 z TI TO .ellipsis f1:=b2 _ _ D.i1z.symm z1;have ne:e≠z:=λn=>by subst n;rw[z2]at ho;cases ho;simp at hc
  exact wpAny_setField_rec z2 (by simp) λp3 _ b3=>q p3 e (λc o n1 _ n3 _ v=>b3.extBut _ _ n1 (b2 _ _ n3 (b1.extBut _ _ n1 v))) ⟨oe,b3.extBut _ _ ne ho,hc⟩
 |some x=>
  have e2:ys[k2]? =none:=by rcases hx with h|h;(rw[e1]at h;cases h);exact h
  refine ad (eo (g1.to λo e=>b1.extBut _ o D.i1z e) (t1.to λo e=>b1.extBut _ o D.l1z e) e1 λp2 g1b b2=>am ?_);have hO2:IsPair p2 TO a b:=b2.extBut _ _ D.TOi1 (b1.extBut _ _ D.TOz hO);refine ad (wpAny_seqItems hO2 rfl ?_);refine ad (wpAny_updateSeq_pair hO2 λp3 hO3 b3=>?_);refine ad (wpAny_letGo (am ?_));refine ad (ad (wpAny_onRaise ?_));show wpAny _ _ (Builtin.SmallTypes.nextOf (.ref i2) >>= _) _ _ _;refine ad (lM hh (g2.to λo e=>b3.extBut _ o D.TOi2.symm (b2.extBut _ o D.i12.symm (b1.extBut _ o D.i2z e))) (t2.to λo e=>b3.extBut _ o D.l2TO (b2.extBut _ o D.l2i1 (b1.extBut _ o D.l2z e))) e2 λp4 e b4 he=>?_);obtain⟨oe,ho,hc⟩:=he;have z4:bD p4 z TI TO .ellipsis f1:=b4 _ _ D.i2z.symm (b3.extBut _ _ D.TOz.symm (b2.extBut _ _ D.i1z.symm z1));have ne:e≠z:=λn=>by subst n;rw[z4]at ho;cases ho;simp at hc
  exact wpAny_setField_rec z4 (by simp) λp5 _ b5=>q p5 e (λc o n1 n2 n3 n4 v=>b5.extBut _ _ n1 (b4 _ _ n4 (b3.extBut _ _ n2 (b2.extBut _ _ n3 (b1.extBut _ _ n1 v))))) ⟨oe,b5.extBut _ _ ne ho,hc⟩
def nQ {Q:Option Obj->Shared->Prop}(h:Q (s.heap.get? c) s):wpAny (model prog w) A (loadIfAlive c) Q E s:=λ_ _ _=>h
variable {t:Tok}
def nV {Q:Bool->Shared->Prop}(hz:bD s.heap z TI TO (.int T t) (.bool fb))(hT:s.heap.get? T.toNat=some oT)(q:∀ h',bD h' z TI TO (.int T t) (.bool true)->Heap.SameBut z s.heap h'->Q false { s with heap:=h' }):
  wpAny (model prog w) A (Builtin.SmallTypes.ownedTupleIsFree (.ref z)) Q E s:=by
 unfold Builtin.SmallTypes.ownedTupleIsFree;refine ad (ap (x:=.int T t) hz rfl rfl ?_);refine ad (nQ ?_);rw[hT];refine ad (ap (x:=.bool fb) hz rfl rfl ?_);cases fb
 .refine ad (wpAny_setField_rec hz (by simp) λp1 z1 b1=>am ?_);exact q p1 z1 b1
 .exact ad (am (am (q s.heap hz (Heap.SameBut.refl ..))))
def Bb (D:ZipApart z TI TO i1 i2 l1 l2)(hz:bD s.heap z TI TO (.int T t) (.bool fb))(hT:s.heap.get? T.toNat=some oT)(hI:IsPair s.heap TI (.ref i1) (.ref i2))
  (g1:aU tp1 s.heap i1 l1 k1) (g2:aU tp2 s.heap i2 l2 k2) (t1:bw tp1 s.heap l1 xs) (t2:bw tp2 s.heap l2 ys) (hx:xs[k1]? =some x) (hy:ys[k2]? =some y)
  (q:∀ h',bD h' z TI TO (.int T t) (.bool true)->aU tp1 h' i1 l1 (k1+1)->aU tp2 h' i2 l2 (k2+1)->IsPair h' s.heap.objs.size x y->h'.objs.size=s.heap.objs.size+1->
   (∀ c o,c≠z->c≠i1->c≠i2->s.heap.get? c=some o->h'.get? c=some o)->Q (some (.ref s.heap.objs.size)) { s with heap:=h' }):wpAny (model prog w) A (pyNext (.ref z)) Q E s:=by
 have hZ:s.TypeIs (.ref z) "zip":=⟨_,hz,rfl⟩;unfold pyNext;refine ad (wpAny_attempt (wpAny_callSpecial?_slot (name:=Str.ofString "__next__") hZ F.slot_zip_next (wpAny_call_entry F.slot_zip_next hZ F.entry_zip_next ?_ (F.args_zip_next_1 _))));show wpAny _ _ (field (.ref z) 2 >>= _) _ _ _;refine ad (ap (x:=.bool false) hz rfl rfl ?_);show wpAny _ _ (field (.ref z) 3 >>= _) _ _ _;refine ad (ap (x:=.ref TI) hz rfl rfl ?_);refine ad (wpAny_seqItems hI rfl ?_);show wpAny _ _ (Builtin.SmallTypes.ownedTupleIsFree (.ref z) >>= _) _ _ _;refine ad (nV hz hT λp1 z1 b1=>?_);simp only[Bool.false_eq_true,if_false];simp only[List.forIn_toArray,forIn_cons,forIn_nil];refine ad (ad (ad (bd ?_)));show wpAny _ _ (Builtin.SmallTypes.nextOf (.ref i1) >>= _) _ _ _;refine ad (eo (g1.to λo e=>b1.extBut _ o D.i1z e) (t1.to λo e=>b1.extBut _ o D.l1z e) hx λp2 g1b b2=>am (am ?_));dsimp only;refine ad (ad (bd ?_));show wpAny _ _ (Builtin.SmallTypes.nextOf (.ref i2) >>= _) _ _ _;refine ad (eo (g2.to λo e=>b2.extBut _ o D.i12.symm (b1.extBut _ o D.i2z e)) (t2.to λo e=>b2.extBut _ o D.l2i1 (b1.extBut _ o D.l2z e)) hy λp3 g2b b3=>am (am (am ?_)));dsimp only;refine ad (wpAny_newTuple ?_ (hsz:=fits (pc rfl)));have hsz:p3.objs.size=s.heap.objs.size:=by rw[b3.1,b2.1,b1.1]
 refine am ⟨_,rfl,?_⟩;have z3:bD p3 z TI TO (.int T t) (.bool true):=b3.extBut _ _ D.i2z.symm (b2.extBut _ _ D.i1z.symm z1);rw[hsz];refine am (q _ (ul _ z3) (g1b.to λo e=>ul _ (b3.extBut _ o D.i12 e)) (g2b.to λo e=>ul _ e) (by rw[<-hsz];exact v0 _ rfl) (by rw[Heap.size_push,hsz]) λc o n1 n2 n3 e=>?_);exact ul _ (b3.extBut _ _ n3 (b2.extBut _ _ n2 (b1.extBut _ _ n1 e)))
def xV {Q:Fin->Shared->Prop}(hh:A.handled=none)(D:ZipApart z TI TO i1 i2 l1 l2)(hz:bD s.heap z TI TO (.int T t) (.bool fb))(hT:s.heap.get? T.toNat=some oT)(hI:IsPair s.heap TI (.ref i1) (.ref i2))
  (g1:aU tp1 s.heap i1 l1 k1) (g2:aU tp2 s.heap i2 l2 k2) (t1:bw tp1 s.heap l1 xs) (t2:bw tp2 s.heap l2 ys) (hx:xs[k1]? =none\/ys[k2]? =none)
  (q:∀ h' e,(∀ c o,c≠z->c≠i1->c≠i2->s.heap.get? c=some o->h'.get? c=some o)->(∃ o,h'.get? e=some o/\o.cls=.type "StopIteration")->E (.ref e) { s with heap:=h' }):
  wpAny (model prog w) A (Builtin.«zip.__next__» ⟨[.ref z],[]⟩) Q E s:=by
 show wpAny _ _ (field (.ref z) 2 >>= _) _ _ _;refine ad (ap (x:=.bool false) hz rfl rfl ?_);show wpAny _ _ (field (.ref z) 3 >>= _) _ _ _;refine ad (ap (x:=.ref TI) hz rfl rfl ?_);refine ad (wpAny_seqItems hI rfl ?_);show wpAny _ _ (Builtin.SmallTypes.ownedTupleIsFree (.ref z) >>= _) _ _ _;refine ad (nV hz hT λp1 z1 b1=>?_);simp only[Bool.false_eq_true,if_false];simp only[List.forIn_toArray,forIn_cons,forIn_nil];refine ad (ad (ad (bd ?_)));show wpAny _ _ (Builtin.SmallTypes.nextOf (.ref i1) >>= _) _ _ _;cases e1:xs[k1]? with
 |none=>exact ad (lM hh (g1.to λo e=>b1.extBut _ o D.i1z e) (t1.to λo e=>b1.extBut _ o D.l1z e) e1 λp2 e b2 he=>q p2 e (λc o n1 n2 n3 v=>b2 _ _ n2 (b1.extBut _ _ n1 v)) he)
 |some x=>
  have e2:ys[k2]? =none:=by rcases hx with h|h;(rw[e1]at h;cases h);exact h
  refine ad (eo (g1.to λo e=>b1.extBut _ o D.i1z e) (t1.to λo e=>b1.extBut _ o D.l1z e) e1 λp2 g1b b2=>am (am ?_));dsimp only;refine ad (ad (bd ?_));show wpAny _ _ (Builtin.SmallTypes.nextOf (.ref i2) >>= _) _ _ _;exact ad (lM hh (g2.to λo e=>b2.extBut _ o D.i12.symm (b1.extBut _ o D.i2z e)) (t2.to λo e=>b2.extBut _ o D.l2i1 (b1.extBut _ o D.l2z e)) e2 λp4 e b4 he=>q p4 e (λc o n1 n2 n3 v=>b4 _ _ n3 (b2.extBut _ _ n2 (b1.extBut _ _ n1 v))) he)
def xl (hh:A.handled=none)(D:ZipApart z TI TO i1 i2 l1 l2)(hz:bD s.heap z TI TO .none f1)(hI:IsPair s.heap TI (.ref i1) (.ref i2))(hO:IsPair s.heap TO a b)
  (g1:aU tp1 s.heap i1 l1 k1) (g2:aU tp2 s.heap i2 l2 k2) (t1:bw tp1 s.heap l1 xs) (t2:bw tp2 s.heap l2 ys) (hx:xs[k1]? =none\/ys[k2]? =none)
  (q:∀ h',(∀ c o,c≠z->c≠TO->c≠i1->c≠i2->s.heap.get? c=some o->h'.get? c=some o)->Q none { s with heap:=h' }):wpAny (model prog w) A (pyNext (.ref z)) Q E s:=by
 have hT:s.TypeIs (.ref z) "zip":=⟨_,hz,rfl⟩;unfold pyNext;refine ad (wpAny_attempt (wpAny_callSpecial?_slot (name:=Str.ofString "__next__") hT F.slot_zip_next (wpAny_call_entry F.slot_zip_next hT F.entry_zip_next (Ew hh D hz hI hO g1 g2 t1 t2 hx λh' e k ⟨o,ho,hc⟩=>?_) (F.args_zip_next_1 _))));exact ad (wpAny_isInstance (T:="StopIteration") (b:=true) ⟨o,ho,hc⟩ isSubtype_stop (am (q _ k)))
def yQ (hh:A.handled=none)(D:ZipApart z TI TO i1 i2 l1 l2)(hz:bD s.heap z TI TO (.int T t) (.bool fb))(hT:s.heap.get? T.toNat=some oT)(hI:IsPair s.heap TI (.ref i1) (.ref i2))
  (g1:aU tp1 s.heap i1 l1 k1) (g2:aU tp2 s.heap i2 l2 k2) (t1:bw tp1 s.heap l1 xs) (t2:bw tp2 s.heap l2 ys) (hx:xs[k1]? =none\/ys[k2]? =none)
  (q:∀ h',(∀ c o,c≠z->c≠i1->c≠i2->s.heap.get? c=some o->h'.get? c=some o)->Q none { s with heap:=h' }):wpAny (model prog w) A (pyNext (.ref z)) Q E s:=by
 have hT':s.TypeIs (.ref z) "zip":=⟨_,hz,rfl⟩;unfold pyNext;refine ad (wpAny_attempt (wpAny_callSpecial?_slot (name:=Str.ofString "__next__") hT' F.slot_zip_next (wpAny_call_entry F.slot_zip_next hT' F.entry_zip_next (xV hh D hz hT hI g1 g2 t1 t2 hx λh' e k ⟨o,ho,hc⟩=>?_) (F.args_zip_next_1 _))));exact ad (wpAny_isInstance (T:="StopIteration") (b:=true) ⟨o,ho,hc⟩ isSubtype_stop (am (q _ k)))
abbrev wQ (tp:Bool)(c:Addr):Obj:=match tp with
 |true=>{ cls:=.type "tuple_iterator",data:=.fields #[.ref c,.int 0 0] }
 |false=>{ cls:=.type "list_iterator",data:=.fields #[.ref c,.int 0 0] }
def nO {vs:Array Value}{Q:K1}(t:bw tp s.heap c vs)(q:Q (.ref s.heap.objs.size) { s with heap:=s.heap.push (wQ tp c) }):wpAny (model prog w) A (pyIter (.ref c)) Q E s:=by
 cases tp
 .exact wpAny_pyIter_list t q
 .exact wpAny_pyIter_tuple t q
@[reducible]def Ft (a:Array Value):Obj:={ cls:=.type "tuple",data:=.seq a }
@[reducible]def Eb (m n:Addr):Obj:={ cls:=.type "zip",data:=.fields #[.none,.bool false,.bool false,.ref m,.ref n] }
def Gy {l:Addr}:(wQ tp l).isFreed=false:=by cases tp<;>rfl
def GJ {n:Nat}(o:Obj)(hn:h.objs.size=n)(ho:o.isFreed=false:=by first|rfl|exact Gy):∃ h',h.push o=h'/\h'.get? n=some o/\h'.objs.size=n+1/\∀ c o',h.get? c=some o'->h'.get? c=some o':=
 ⟨_,rfl,hn▸v0 _ ho,by rw[Heap.size_push,hn],λ_ _ e=>ul _ e⟩
def JV {i l:Addr}(e:h.get? i=some (wQ tp l)):aU tp h i l 0:=by
 cases tp
 .exact⟨_,e,rfl,rfl⟩
 .exact⟨_,e,rfl,rfl⟩
noncomputable abbrev CL (h:Heap)(tp1 tp2:Bool)(l1 l2:Addr):Heap:=((((h.push (wQ tp1 l1)).push (wQ tp2 l2)).push (Ft #[.ref h.objs.size,.ref (h.objs.size+1)])).push (Ft #[.none,.none])).push (Eb (h.objs.size+2) (h.objs.size+3))
def zj (tp1 tp2:Bool)(l1 l2:Addr)(xs ys:Array Value):Meets (Builtin.«zip.__new__» ⟨[.type "zip",.ref l1,.ref l2],[]⟩)
  (λ_ R s=>bw tp1 s.heap l1 xs/\bw tp2 s.heap l2 ys/\R (.ok (.ret (.ref (s.heap.objs.size+4)))) { s with heap:=CL s.heap tp1 tp2 l1 l2 }):=.of_wp λprog w A R s h=>by
 obtain⟨hp,g,d,tk,os⟩:=s;obtain⟨t1,t2,q⟩:=h;have hsub:=sub_zip;have t2':bw tp2 (hp.push (wQ tp1 l1)) l2 ys:=t2.to λo e=>ul _ e
 wp_walk using nO (s:=⟨hp,g,d,tk,os⟩) t1,nO (s:=⟨hp.push (wQ tp1 l1),g,d,tk,os⟩) t2'
 refine⟨_,rfl,?_⟩;simp only[Heap.size_push,Nat.add_assoc]at q⊢;exact q
def om {Q:K1}(t1:bw tp1 s.heap l1 xs)(t2:bw tp2 s.heap l2 ys)
  (q:∀ h',bD h' (s.heap.objs.size+4) (s.heap.objs.size+2) (s.heap.objs.size+3) .none (.bool false)->IsPair h' (s.heap.objs.size+2) (.ref s.heap.objs.size) (.ref (s.heap.objs.size+1))->
   IsPair h' (s.heap.objs.size+3) .none .none->aU tp1 h' s.heap.objs.size l1 0->aU tp2 h' (s.heap.objs.size+1) l2 0->h'.objs.size=s.heap.objs.size+5->
   (∀ c o,s.heap.get? c=some o->h'.get? c=some o)->Q (.ref (s.heap.objs.size+4)) { s with heap:=h' }):
  wpAny (model prog w) A (call (.type "zip") [.ref l1,.ref l2]) Q E s:=by
 refine callType_new F.called_zip (by decide) (F.typeCall_zip_2 _ _) (F.newCall_zip_2 _ _) (λobj=>F.args_object_init_3 obj _ _) F.entry_zip_new (zj tp1 tp2 l1 l2 xs ys) ⟨t1,t2,?_⟩;generalize hn:s.heap.objs.size=n at q⊢;have hz:CL s.heap tp1 tp2 l1 l2=((((s.heap.push (wQ tp1 l1)).push (wQ tp2 l2)).push (Ft #[.ref n,.ref (n+1)])).push (Ft #[.none,.none])).push (Eb (n+2) (n+3)):=by rw[<-hn]
 obtain⟨_,a1,e0,z0,k0⟩:=GJ (wQ tp1 l1) hn;obtain⟨_,a2,e1,z1,k1⟩:=GJ (wQ tp2 l2) z0;obtain⟨_,a3,e2,z2,k2⟩:=GJ (Ft #[.ref n,.ref (n+1)]) z1;obtain⟨_,a4,e3,z3,k3⟩:=GJ (Ft #[.none,.none]) z2;obtain⟨_,a5,e4,z4,k4⟩:=GJ (Eb (n+2) (n+3)) z3;rw[hz,a1,a2,a3,a4,a5];exact⟨⟨_,e4,rfl⟩,q _ e4 (k4 _ _ (k3 _ _ e2)) (k4 _ _ e3) ((JV e0).to λo e=>k4 _ _ (k3 _ _ (k2 _ _ (k1 _ _ e)))) ((JV e1).to λo e=>k4 _ _ (k3 _ _ (k2 _ _ e))) z4 λc o e=>k4 _ _ (k3 _ _ (k2 _ _ (k1 _ _ (k0 _ _ e))))⟩
def xS {n:Addr}(a1:l1<n)(a2:l2<n):ZipApart (n+4) (n+2) (n+3) n (n+1) l1 l2:=by
 constructor<;>(intro e;have e':=(show @Eq Nat _ _ from e);have b1:=(show @LT.lt Nat _ l1 n from a1);have b2:=(show @LT.lt Nat _ l2 n from a2);omega)
def uL {m:Nat}{T:Addr}{Q:KZ}(hz:bD s.heap z TI TO (rawInt T) f1)(q:∀ h',bD h' z TI TO .none f1->Heap.SameBut z s.heap h'->Q () { s with heap:=h' }):
  wpAny (model prog w) A (letOwnedTupleGo (.Tuple elts m pos) (.ref z) (.ref T)) Q E s:=by
 unfold letOwnedTupleGo;refine ad (wpAny_load hz ?_);show wpAny _ _ (if(["enumerate","zip","dict_itemiterator","dict_reverseitemiterator","odict_iterator","itertools.zip_longest","itertools.pairwise"].contains "zip"&&(#[rawInt T,f1,.bool false,.ref TI,.ref TO]:Array Value)[0]? ==some (rawInt T))=true then _ else _) Q E s;rw[if_pos (by simp)];exact ad (wpAny_rule (wpAny_setField_rec hz (by simp) λh' z' b'=>q h' z' b'))
def js {f0:Value}{Q:K1}(hz:bD s.heap z TI TO f0 f1)(h:Q (.ref z) s):wpAny (model prog w) A (pyIter (.ref z)) Q E s:=by
 have hT:s.TypeIs (.ref z) "zip":=⟨_,hz,rfl⟩;refine wpAny_pyIter_slot hT F.slot_zip_iter (wpAny_call_entry F.slot_zip_iter hT F.entry_zip_iter ?_ (F.args_zip_iter_1 _));show wpAny _ _ (ret (.ref z)) _ _ s;exact am ⟨_,rfl,"zip",_,hT,F.slot_zip_next.lookup,h⟩
end
variable {X:Cx}{Y:K2}{U:St}{H:Hp}{s:Shared}
def Inv.Bi {h':Heap}{t':Nat}{ch:List Addr}(I:Inv X Y U H s)(k:∀ b u,b ∉ ch->s.heap.get? b=some u->h'.get? b=some u) (hf:∀ b ∈ ch,fO X Y H b):Inv X Y U H { s with heap:=h',toks:=t' }:=by
 have nch:∀ b u,H b=some u->b ∉ ch:=λb u e z=>by rw[(hf b z).1]at e;cases e
 refine I.step (g':=s.gens) (d':=s.drawn) (ch:=ch) (λb hb=>?_) (λb o _ _ hc e _=>k b o hc e) (λb o _ _ hc e _=>⟨o.slots,k b o hc e⟩) (λ_ _ _ _ n=>n)
  (λb o hc e=>⟨o,k b o hc e⟩) (λ_ _ e=>e) (λ_ _ _ e=>e) (λb ps e=>⟨#[],by rw[e];simp⟩) (λm hm=>?_) (λb u e=>?_) I.bare
 .obtain⟨_,f1,_,f3,f4,f5⟩:=hf b hb;exact⟨f3,f1,f4,f5⟩
 .obtain⟨o,es,ep,ho,r⟩:=hm;exact⟨o,es,ep,k _ o (λz=>(hf _ z).2.1 rfl) ho,r⟩
 .refine(I.hok b u e).du (λc v hc q=>k c v ?_ q) (λ_ q=>q) λ_ _ q=>q
  rcases hc with rfl|hc
  .exact nch _ _ e
  .exact nch _ _ hc
abbrev Sq (K:W.Frag)(tp:Bool)(H:Hp)(c:Addr)(xs:List V):Prop:=match tp with
 |true=>aX K H c xs
 |false=>ba K H c xs
def Inv.sq {xs:List V}(I:Inv X Y U H s)(h:Sq X.K tp H c xs):∃ its:List Value,Vals xs its/\bw tp s.heap c its.toArray:=by
 cases tp
 .obtain⟨its,r,p,_⟩:=I.list h;exact⟨its,r,p.isList⟩
 .obtain⟨its,r,p,_⟩:=I.tuple h;exact⟨its,r,p⟩
def Inv.vL {xs ys:List V}(I:Inv X Y U H s)(h:Sq X.K tp H c xs)(h':Sq X.K tp H c ys):xs=ys:=by
 cases tp
 .exact I.jU h h'
 .exact I.cB h h'
abbrev Ir (K:W.Frag)(tp1:Bool)(l1:Addr)(tp2:Bool)(l2:Addr):It:=
 ⟨λi H=>∃ xs ys x y,Sq K tp1 H l1 xs/\Sq K tp2 H l2 ys/\xs[i]? =some x/\ys[i]? =some y,
  λi H v H'=>∃ T x y,H T=none/\v=.ref T/\H'=upd H T (.tup [x,y])/\(∀ xs,Sq K tp1 H l1 xs->xs[i]? =some x)/\∀ ys,Sq K tp2 H l2 ys->ys[i]? =some y,
  λi H=>∃ xs ys,Sq K tp1 H l1 xs/\Sq K tp2 H l2 ys/\(xs.length<=i\/ys.length<=i)⟩
def xw {P:Program}{w:World}{K:W.Frag}{tp1 tp2:Bool}{z TI TO i1 i2 l1 l2:Addr}(D:ZipApart z TI TO i1 i2 l1 l2):
  Turn P w K Calm (.Tuple elts k pos) (Ir K tp1 l1 tp2 l2) [z,TI,TO,i1,i2] z (λi h=>(∃ f1,bD h z TI TO .none f1)/\IsPair h TI (.ref i1) (.ref i2)/\(∃ a b,IsPair h TO a b)/\aU tp1 h i1 l1 i/\aU tp2 h i2 l2 i) where
 mem:=by simp
 obj:=λi h st b hb=>by
  obtain⟨⟨f1,hz⟩,hI,⟨a,b',hO⟩,g1,g2⟩:=st;have it:∀ {tp:Bool}{j c:Addr}{k:Nat},aU tp h j c k->∃ o,h.get? j=some o/\∀ v,o.data≠.cell v:=λ{tp j c k} g=>by
   cases tp
   .obtain⟨o,e,_,d⟩:=(show h.IsListIter j c k from g);exact⟨o,e,λv z=>by rw[d]at z;cases z⟩
   .obtain⟨o,e,_,d⟩:=(show h.IsTupleIter j c k from g);exact⟨o,e,λv z=>by rw[d]at z;cases z⟩
  simp only[lw,not_mem_nil,or_false]at hb;rcases hb with rfl|rfl|rfl|rfl|rfl
  .exact⟨_,hz,λv e=>by cases(show Data.fields _=Data.cell v from e)⟩
  .exact⟨_,hI,λv e=>by cases(show Data.seq _ _=Data.cell v from e)⟩
  .exact⟨_,hO,λv e=>by cases(show Data.seq _ _=Data.cell v from e)⟩
  .exact it g1
  .exact it g2
 keep:=λi h h' st k=>by
  obtain⟨⟨f1,hz⟩,hI,⟨a,b',hO⟩,g1,g2⟩:=st;exact⟨⟨f1,k z (by simp) _ hz⟩,k TI (by simp) _ hI,⟨a,b',k TO (by simp) _ hO⟩,g1.to λo e=>k i1 (by simp) o e,g2.to λo e=>k i2 (by simp) o e⟩
 item:=by
  intro X hP hw hK hc i Y s U H E I hf st hg;subst hP hw hK;obtain⟨xs,ys,x,y,hq1,hq2,hx,hy⟩:=hg;obtain⟨⟨f1,hz⟩,hI,⟨a,b,hO⟩,g1,g2⟩:=st;obtain⟨is1,r1,t1⟩:=I.sq hq1;obtain⟨is2,r2,t2⟩:=I.sq hq2;obtain⟨u,hu,ru⟩:=r1.get hx;obtain⟨v,hv,rv⟩:=r2.get hy;have n0:∀ {c o},s.heap.get? c=some o->c≠s.heap.objs.size:=λe=>pi (ut e)
  refine sM D hz hI hO g1 g2 t1 t2 (x:=u) (y:=v) (by simpa using hu) (by simpa using hv) λh1 z1 o1 j1 j2 hT hs1 k1=>?_
  have I1:Inv X Y U (upd H s.heap.objs.size (.tup [x,y])) { s with heap:=h1,toks:=s.toks }:=
   I.jL (ch:=[z,TI,TO,i1,i2]) (λb o hb q=>k1 b o (λe=>hb (by simp[e])) (λe=>hb (by simp[e])) (λe=>hb (by simp[e])) (λe=>hb (by simp[e])) q) hf (re _)
    ⟨fits (pc rfl),[u,v],.cons ru (.cons rv .nil),⟨_,hT,rfl,_,rfl⟩⟩
  refine⟨_,rfl,uL z1 λh2 z2 b2=>?_⟩;obtain⟨f0,f1',f2,f3,f4,f5⟩:=hf z (by simp);have I2:=I1.turned (h':=h2) (t':=s.toks) (it:=z) (λb o hb q=>(b2.2 b hb).trans q) (by rw[af (n0 hz)];exact f0) f1' f3 f4 f5;refine⟨.ref s.heap.objs.size,_,I2,rfl,⟨_,x,y,I.hok.fresh (re _),rfl,rfl,λzs hz'=>?_,λzs hz'=>?_⟩,⟨⟨_,z2⟩,?_,⟨_,_,b2.extBut _ _ D.TOz o1⟩,j1.to λo e=>b2.extBut _ o D.i1z e,j2.to λo e=>b2.extBut _ o D.i2z e⟩,λb hb=>?_⟩
  .rw[I.vL hz' hq1];exact hx
  .rw[I.vL hz' hq2];exact hy
  .exact b2.extBut _ _ D.TIz (k1 _ _ D.TIz D.TITO D.TIi1 D.TIi2 hI)
  .have hb':b≠s.heap.objs.size:=by
    simp only[lw,not_mem_nil,or_false]at hb;rcases hb with rfl|rfl|rfl|rfl|rfl
    .exact n0 hz
    .exact n0 hI
    .exact n0 hO
    .exact pi g1.lt
    .exact pi g2.lt
   rw[af hb'];exact(hf b hb).1
 done:=by
  intro X hP hw hK hc i Y s U H E I hf st hg;subst hP hw hK;obtain⟨xs,ys,hq1,hq2,hx⟩:=hg;obtain⟨⟨f1,hz⟩,hI,⟨a,b,hO⟩,g1,g2⟩:=st;obtain⟨is1,r1,t1⟩:=I.sq hq1;obtain⟨is2,r2,t2⟩:=I.sq hq2;have e1:=r1.length;have e2:=r2.length;refine xl (I.ok.hd hc) D hz hI hO g1 g2 t1 t2 (by simp;omega) λh' k'=>⟨rfl,?_⟩
  exact I.Bi (t':=s.toks) (ch:=[z,TI,TO,i1,i2]) (λb o hb q=>k' b o (λe=>hb (by simp[e])) (λe=>hb (by simp[e])) (λe=>hb (by simp[e])) (λe=>hb (by simp[e])) q) hf
 self:=λ_ _ _ _ _ st h=>by
  obtain⟨⟨f1,hz⟩,_⟩:=st;exact js hz h
def vD:bootBuiltins "zip"=some (.type "zip"):=by decide+kernel
abbrev Gg (K:W.Frag)(v u:V)(H:Hp)(R:It->Hp->Prop):Prop:=∃ tp1 l1 tp2 l2,v=.ref l1/\u=.ref l2/\(∃ xs,Sq K tp1 H l1 xs)/\(∃ ys,Sq K tp2 H l2 ys)/\R (Ir K tp1 l1 tp2 l2) H
abbrev Jj (K:W.Frag)(ta:TA):TI:=λU H R=>ta U H λvs H1=>∃ v u,vs=[v,u]/\Gg K v u H1 R
def DE {a b:Expr}{ta:TA}{p pos':Pos}(hg:Gl X "zip") (hm:X.mg "zip"=none) (ha:PA X [a,b] ta) (hs:bm [a,b] X.env=(false,eval a X.env)::bm [b] X.env:=by rfl) (hpl:(backTo pos (bm [b] X.env)).any (·.1)=false:=by rfl):
  PI X (.Tuple elts k pos') (.Call (.Name "zip" p) [a,b] [] pos) (Jj X.K ta):=by
 intro Y s U H R I h;refine Call_ (bN I hg hm vD (PyProof.Rows.callWith_type1 (ax (ha pos Y s U H _ I h) λus s1 ⟨vs,H1,I1,r1,q1⟩=>?_) hs hpl));obtain⟨v,u,e,tp1,l1,tp2,l2,e1,e2,⟨xs,q1⟩,⟨ys,q2⟩,q⟩:=q1;subst e e1 e2;cases r1 with
 |cons r rr=>
  cases rr with
  |cons r' rr'=>
   cases rr';cases r;cases r';obtain⟨is1,s1',t1⟩:=I1.sq q1;obtain⟨is2,s2',t2⟩:=I1.sq q2;refine om t1 t2 λh' hz hI hO g1 g2 hsz hk=>?_
   refine js hz ?_;refine⟨s1.heap.objs.size+4,[s1.heap.objs.size+4,s1.heap.objs.size+2,s1.heap.objs.size+3,s1.heap.objs.size,s1.heap.objs.size+1],_,_,H1,rfl,I1.kept (t':=s1.toks) hk,xw (xS t1.lt t2.lt),⟨⟨_,hz⟩,hI,⟨_,_,hO⟩,g1,g2⟩,λb hb=>?_,q⟩;have hb':s1.heap.objs.size<=b:=by
    simp only[lw,not_mem_nil,or_false]at hb;rcases hb with rfl|rfl|rfl|rfl|rfl<;>first|exact re _|exact Nat.le_add_right _ _
   exact I1.lL hb' (I1.hok.fresh hb')
def lQ:entryFor table "zip.__getattribute__"=some Builtin.«object.__getattribute__»:=entryFor_alias (id':="object.__getattribute__") (by kernel_rfl) (by first|rfl|decide+kernel) (by decide+kernel) (by kernel_rfl)
def ph:typeLookup (.type "zip") "keys"=pure none:=by rw[typeLookup_type,builtinLookup_eq_fast];kernel_rfl
def uG:typeLookup (.type "zip") "__getattr__"=pure none:=by rw[typeLookup_type,builtinLookup_eq_fast];kernel_rfl
def uh (a:Addr)(vs:Array Value)(u:Tok):Meets (Builtin.«object.__getattribute__» ⟨[.ref a,.str "keys" u],[]⟩) (λA R s=>s.heap.get? a=some { cls:=.type "zip",dict:=none,data:=.fields vs,slots:=#[] }/\raisesAttr (.ref a) "keys" A R s):=
 Meets.of_wp λprog w A R s ⟨hx,hs⟩=>by
  obtain⟨hp,g,d,tk,os⟩:=s;have hT:(⟨hp,g,d,tk,os⟩:Shared).TypeIs (.ref a) "zip":=⟨_,hx,rfl⟩;have f4:=ph;unfold Builtin.«object.__getattribute__»
  repeat(any_goals first|assumption|wp_step)
  exact wpAny_raiseAttrError hs.1 hs.2 (attrMsg_fits (by decide+kernel) (by rw[sizeLine_eq];decide+kernel))
section
variable {prog:Program}{w:World}{A:Around}{E:K1}{s:Shared}{a:Addr}{vs:Array Value}
def yP (hA:A.handled=none)(hx:s.heap.get? a=some { cls:=.type "zip",dict:=none,data:=.fields vs,slots:=#[] })
  (q:∀ h' t',(∀ c u,s.heap.get? c=some u->h'.get? c=some u)->Q none { s with heap:=h',toks:=t' }):wpAny (model prog w) A (getAttr? (.ref a) "keys") Q E s:=by
 obtain⟨hp,g,d,tk,os⟩:=s;have hT:∀ t',(⟨hp,g,d,t',os⟩:Shared).TypeIs (.ref a) "zip":=λ_=>⟨_,hx,rfl⟩
 have f1:=sub_AttributeError;have f3:=PySem.F.slot_zip_getattribute.lookup;have f4:=PySem.F.slot_zip_getattribute.bind (.ref a);have f5:=uG;unfold getAttr? getAttrBy? getAttrBy
 repeat(any_goals first|assumption|((with_reducible show wpAny _ _ (call (Value.builtin "zip.__getattribute__") _ _) _ _ _);refine call_meets PySem.F.slot_zip_getattribute (hT _) lQ (PySem.F.args_zip_getattribute_2 _ _) (uh a vs _) ⟨hx,hA,λh' tk' e he=>?_⟩)|wp_step)
 obtain⟨t1,u1,e1⟩:=he.there;show wpAny _ _ (getattributeRaised _ _ _ _ _ _ _) _ _ _;unfold getattributeRaised
 repeat(any_goals first|assumption|wp_step)
 exact q _ _ he.keeps
end
structure Zs (h:Heap) (tp1 tp2:Bool) (z TI TO i1 i2 l1 l2:Addr) (i:Nat) (xs ys:Array Value):Prop where
 zo:(∃ f1,bD h z TI TO .none f1)\/∃ (T:Int) (fb:Bool) (o:Obj),bD h z TI TO (rawInt T) (.bool fb)/\h.get? T.toNat=some o/\T.toNat≠z/\T.toNat≠TO/\T.toNat≠i1/\T.toNat≠i2
 hI:IsPair h TI (.ref i1) (.ref i2)
 hO:∃ a b,IsPair h TO a b
 g1:aU tp1 h i1 l1 i
 g2:aU tp2 h i2 l2 i
 t1:bw tp1 h l1 xs
 t2:bw tp2 h l2 ys
variable {d:Addr}
section
variable {prog:Program}{w:World}{A:Around}{E:K1}{s:Shared}{tp1 tp2:Bool}{z TI TO i1 i2 l1 l2:Addr}{i:Nat}{xs ys:Array Value}{x y:Value}
def Zs.next (D:ZipApart z TI TO i1 i2 l1 l2)(Z:Zs s.heap tp1 tp2 z TI TO i1 i2 l1 l2 i xs ys)(hx:xs[i]? =some x)(hy:ys[i]? =some y)
  (q:∀ h',Zs h' tp1 tp2 z TI TO i1 i2 l1 l2 (i+1) xs ys->IsPair h' s.heap.objs.size x y->h'.objs.size=s.heap.objs.size+1->(∀ c o,c≠z->c≠TO->c≠i1->c≠i2->s.heap.get? c=some o->h'.get? c=some o)->Q (some (.ref s.heap.objs.size)) { s with heap:=h' }):
  wpAny (model prog w) A (pyNext (.ref z)) Q E s:=by
 obtain⟨zo,hI,⟨a,b,hO⟩,g1,g2,t1,t2⟩:=Z;have n0:∀ {c o},s.heap.get? c=some o->s.heap.objs.size≠c:=λe=>Nat.ne_of_gt (ut e)
 rcases zo with⟨f1,hz⟩|⟨T,fb,o,hz,hT,n1,n2,n3,n4⟩
 .refine sM D hz hI hO g1 g2 t1 t2 hx hy λh' z1 o1 j1 j2 p1 sz k=>?_
  refine q h' ⟨.inr ⟨s.heap.objs.size,false,_,z1,p1,n0 hz,n0 hO,Nat.ne_of_gt g1.lt,Nat.ne_of_gt g2.lt⟩,k _ _ D.TIz D.TITO D.TIi1 D.TIi2 hI,⟨_,_,o1⟩,j1,j2,t1.to λo e=>k _ o D.l1z D.l1TO D.l1i1 D.l1i2 e,t2.to λo e=>k _ o D.l2z D.l2TO D.l2i1 D.l2i2 e⟩ p1 sz k
 .refine Bb D hz hT hI g1 g2 t1 t2 hx hy λh' z1 j1 j2 p1 sz k=>?_
  exact q h' ⟨.inr ⟨T,true,o,z1,k _ _ n1 n3 n4 hT,n1,n2,n3,n4⟩,k _ _ D.TIz D.TIi1 D.TIi2 hI,⟨a,b,k _ _ D.TOz D.TOi1 D.TOi2 hO⟩,j1,j2,t1.to λo e=>k _ o D.l1z D.l1i1 D.l1i2 e,t2.to λo e=>k _ o D.l2z D.l2i1 D.l2i2 e⟩ p1 sz λc o m1 _ m3 m4 e=>k c o m1 m3 m4 e
def Zs.stop (hh:A.handled=none)(D:ZipApart z TI TO i1 i2 l1 l2)(Z:Zs s.heap tp1 tp2 z TI TO i1 i2 l1 l2 i xs ys)(hx:xs[i]? =none\/ys[i]? =none)
  (q:∀ h',(∀ c o,c≠z->c≠TO->c≠i1->c≠i2->s.heap.get? c=some o->h'.get? c=some o)->Q none { s with heap:=h' }):wpAny (model prog w) A (pyNext (.ref z)) Q E s:=by
 obtain⟨zo,hI,⟨a,b,hO⟩,g1,g2,t1,t2⟩:=Z;rcases zo with⟨f1,hz⟩|⟨T,fb,o,hz,hT,_⟩
 .exact xl hh D hz hI hO g1 g2 t1 t2 hx q
 .exact yQ hh D hz hT hI g1 g2 t1 t2 hx λh' k=>q h' λc o m1 _ m3 m4 e=>k c o m1 m3 m4 e
def Zs.keep {h':Heap}(Z:Zs h tp1 tp2 z TI TO i1 i2 l1 l2 i xs ys)(k:∀ c o,h.get? c=some o->c≠d->h'.get? c=some o) (n:d≠z/\d≠TI/\d≠TO/\d≠i1/\d≠i2/\d≠l1/\d≠l2) (hd:∃ o,h'.get? d=some o):Zs h' tp1 tp2 z TI TO i1 i2 l1 l2 i xs ys:=by
 obtain⟨zo,hI,⟨a,b,hO⟩,g1,g2,t1,t2⟩:=Z;obtain⟨m1,m2,m3,m4,m5,m6,m7⟩:=n;refine⟨?_,k _ _ hI m2.symm,⟨a,b,k _ _ hO m3.symm⟩,g1.to λo e=>k _ o e m4.symm,g2.to λo e=>k _ o e m5.symm,t1.to λo e=>k _ o e m6.symm,t2.to λo e=>k _ o e m7.symm⟩;rcases zo with⟨f1,hz⟩|⟨T,fb,o,hz,hT,r⟩
 .exact .inl ⟨f1,k _ _ hz m1.symm⟩
 .by_cases e:T.toNat=d
  .obtain⟨o',ho⟩:=hd;exact .inr ⟨T,fb,o',k _ _ hz m1.symm,by rw[e];exact ho,r⟩
  .exact .inr ⟨T,fb,o,k _ _ hz m1.symm,k _ _ hT e,r⟩
end
def ei:plainId "dict.update.loop"=true:=by decide+kernel
def lA:entryFor table "dict.update.loop"=some Builtin.«dict.update.loop»:=entryFor_of_tree (by kernel_rfl)
variable {E:K1}
section
variable {prog:Program}{w:World}{A:Around}{tp1 tp2:Bool}{z TI TO i1 i2 l1 l2 d:Addr}{xs ys:Array Value}{Ky:Type} [DecidableEq Ky] {knd:KeyKind prog w Ky}
def vy (hh:A.handled=none)(D:ZipApart z TI TO i1 i2 l1 l2)(nd:d≠z/\d≠TI/\d≠TO/\d≠i1/\d≠i2/\d≠l1/\d≠l2)(ks:List Ky)(hk:∀ (j:Nat) x,xs[j]? =some x->∃ k,ks[j]? =some k/\knd.is k x=true) (hz:xs.size=ys.size):
  ∀ (m i:Nat),xs.size-i=m->i<=xs.size->∀ (s:Shared) (kvs:List (Ky×Value)) (R:Result->Shared->Prop),Zs s.heap tp1 tp2 z TI TO i1 i2 l1 l2 i xs ys->s.heap.DictOf knd d kvs->kvs.length+m<=bn->
  (∀ h' t',h'.DictOf knd d (merged kvs ((ks.zip ys.toList).drop i))->(∀ c o,c≠z->c≠TO->c≠i1->c≠i2->c≠d->s.heap.get? c=some o->h'.get? c=some o)->R (.ok (.ret .none)) { s with heap:=h',toks:=t' })->
  wpAny (model prog w) A.in1 (Builtin.«dict.update.loop» ⟨[.ref d,.ref z,rawInt i,.none],[]⟩) (λfin s'=>match fin with| .done f=>R (.ok f) s'| .again c'=>c'.quiet=true/\codeAny (model prog w) A c' R s') (λe s'=>R (.error e) s') s:=by
 intro m
 induction m with
 |zero=>
  intro i hm hi s kvs R Z dd hl q;show wpAny _ _ (pyNext (.ref z) >>= _) _ _ _;refine ad (Z.stop (show A.in1.handled=none from hh) D (.inl (by simp;omega)) λh' k=>?_);show wpAny _ _ (Builtin.Dict.addKeywords d [] >>= _) _ _ _;refine ad (am (am ?_));have e:(ks.zip ys.toList).drop i=[]:=by
   rw[List.drop_eq_nil_iff,length_zip];simp
   omega
  rw[e]at q;refine q h' s.toks ?_ λc o n1 n2 n3 n4 _ e=>k c o n1 n2 n3 n4 e
  obtain⟨o,es,ep,ho,r⟩:=dd;exact⟨o,es,ep,k _ _ nd.1 nd.2.2.1 nd.2.2.2.1 nd.2.2.2.2.1 ho,r⟩
 |succ m ih=>
  intro i hm hi s kvs R Z dd hl q;have h1:i<xs.size:=by omega
  have h2:i<ys.size:=by omega
  have e1:xs[i]? =some xs[i]:=Array.getElem?_eq_getElem h1;have e2:ys[i]? =some ys[i]:=Array.getElem?_eq_getElem h2;obtain⟨k,hk1,hk2⟩:=hk i _ e1;show wpAny _ _ (pyNext (.ref z) >>= _) _ _ _;refine ad (Z.next D e1 e2 λh' Z' p sz fr=>?_);show wpAny _ _ (holding [_] _ >>= _) _ _ _;refine ad (bd ?_);refine ad ?_;have hT:({ s with heap:=h' }:Shared).TypeIs (.ref s.heap.objs.size) "tuple":=⟨_,p,rfl⟩;refine wpAny_tryCatch ?_;unfold Builtin.Dict.pairItems;refine ad (wpAny_typeOf hT ?_);rw[if_pos (by decide)];refine ad (wpAny_seqItems p rfl (am ?_));show wpAny _ _ (holding [_,_] (dictSet d xs[i] ys[i])) _ _ _;refine bd ?_;have dd':h'.DictOf knd d kvs:=by
   obtain⟨o,es,ep,ho,r⟩:=dd;exact⟨o,es,ep,fr _ _ nd.1 nd.2.2.1 nd.2.2.2.1 nd.2.2.2.2.1 ho,r⟩
  refine wpAny_dictSet_pairs (s:={ s with heap:=h' }) (hsz:=by omega) hk2 dd' λh2' d2 b2=>?_
  show wpAny _ _ (pure (Fin.again (.builtin "dict.update.loop" ⟨[.ref d,.ref z,rawInt ((i:Int)+1),.none],[]⟩))) _ _ _;refine am ⟨plainId_quiet ei _,codeAny_builtin lA ?_⟩;rw[Around.under_plainId ei _,show((i:Int)+1)=((i+1:Nat):Int) by push_cast;rfl];have hd:∃ o,h2'.get? d=some o:=let⟨o,_,_,ho,_⟩:=d2;⟨o,ho⟩;refine ih (i+1) nofun nofun { s with heap:=h2',toks:=s.toks+1 } (stored kvs k ys[i]) R (Z'.keep (λc o e n=>b2.extBut _ _ n e) nd hd) d2 ?_ λh3 t3 d3 f3=>?_
  .have:(stored kvs k ys[i]).length<=kvs.length+1:=by
    unfold stored
    split
    .rw[ci];omega
    .rw[cr];simp
   omega
  .have ed:(ks.zip ys.toList).drop i=(k,ys[i])::(ks.zip ys.toList).drop (i+1):=by
    have:(ks.zip ys.toList)[i]? =some (k,ys[i]):=by
     rw[List.getElem?_zip_eq_some];exact⟨hk1,by simpa using h2⟩
    obtain⟨hlt,he⟩:=tz.mp this;rw[List.drop_eq_getElem_cons hlt,he]
   refine q h3 t3 ?_ λc o n1 n2 n3 n4 n5 e=>f3 c o n1 n2 n3 n4 n5 (b2.extBut _ _ n5 (fr c o n1 n2 n3 n4 e))
   rw[ed];exact d3
def lN {Q:K1}(hh:A.handled=none)(D:ZipApart z TI TO i1 i2 l1 l2)(ks:List Ky)(hk:∀ (j:Nat) x,xs[j]? =some x->∃ k,ks[j]? =some k/\knd.is k x=true) (hz:xs.size=ys.size) (hn:ks.Nodup) (hkl:ks.length=xs.size) (hsz:xs.size<=bn)
  (Z:Zs s.heap tp1 tp2 z TI TO i1 i2 l1 l2 0 xs ys) (hzo:∃ f1,bD s.heap z TI TO .none f1)
  (q:∀ h' t',h'.DictOf knd s.heap.objs.size (ks.zip ys.toList)->(∀ c o,c≠z->c≠TO->c≠i1->c≠i2->s.heap.get? c=some o->h'.get? c=some o)->Q (.ref s.heap.objs.size) { s with heap:=h',toks:=t' }):
  wpAny (model prog w) A (call (.type "dict") [.ref z]) Q E s:=by
 refine callType_codes (Q₁:=λobj s1=>obj=.ref s.heap.objs.size/\s1={ s with heap:=s.heap.push { cls:=.type "dict",data:=.dict #[] } }) PySem.F.kt_called_dict (PySem.F.kt_typeCall_dict_1 _) PySem.F.entry_dict_init (kt_code_dict_new _ ⟨rfl,rfl⟩) ?_;rintro obj s1 ⟨rfl,rfl⟩;have dn:(s.heap.push { cls:=.type "dict",data:=.dict #[] }).DictOf knd s.heap.objs.size []:=Heap.DictOf.new s.heap;refine⟨dn.typeIs,PySem.F.args_dict_init_2 _ _,?_⟩;unfold Builtin.«dict.__init__»;refine ad ?_;unfold Builtin.Dict.selfAndRest;refine ad (wpAny_notOrdered_dict dn.typeIs ?_);show wpAny _ _ (pure (s.heap.objs.size,[Value.ref z])) _ _ _;refine am ?_;show wpAny _ _ (Builtin.Dict.updateFrom "dict.__init__" s.heap.objs.size (.ref z) [] .none) _ _ _;unfold Builtin.Dict.updateFrom;obtain⟨f1,hz0⟩:=hzo;have hz1:(s.heap.push { cls:=.type "dict",data:=.dict #[] }).get? z=some _:=ul _ hz0;have hT:({ s with heap:=s.heap.push { cls:=.type "dict",data:=.dict #[] } }:Shared).TypeIs (.ref z) "zip":=⟨_,hz1,rfl⟩;refine ad (wpAny_typeOf hT ?_);rw[if_pos (by decide)];refine ad (yP hh hz1 λh1 t1 k1=>?_);rw[if_pos (show(none:Option Value).isNone=true from rfl)];refine ad (wpAny_rule ?_);refine ad (js (s:={ s with heap:=h1,toks:=t1 }) (k1 _ _ hz1) ?_);have n0:∀ {c o},s.heap.get? c=some o->s.heap.objs.size≠c:=λe=>Nat.ne_of_gt (ut e)
 have nd:s.heap.objs.size≠z/\s.heap.objs.size≠TI/\s.heap.objs.size≠TO/\s.heap.objs.size≠i1/\s.heap.objs.size≠i2/\s.heap.objs.size≠l1/\s.heap.objs.size≠l2:=by
  obtain⟨a,b,hO⟩:=Z.hO;exact⟨n0 hz0,n0 Z.hI,n0 hO,Nat.ne_of_gt Z.g1.lt,Nat.ne_of_gt Z.g2.lt,Nat.ne_of_gt Z.t1.lt,Nat.ne_of_gt Z.t2.lt⟩
 have kk:∀ c o,s.heap.get? c=some o->h1.get? c=some o:=λc o e=>k1 _ _ (ul _ e)
 have d1:h1.DictOf knd s.heap.objs.size []:=by
  obtain⟨o,es,ep,ho,r⟩:=dn;exact⟨o,es,ep,k1 _ _ ho,r⟩
 refine am ⟨plainId_quiet ei _,codeAny_builtin lA ?_⟩;rw[Around.under_plainId ei _];refine vy (A:=A.in1) (d:=s.heap.objs.size) hh D nd ks hk hz _ 0 rfl (Nat.zero_le _) { s with heap:=h1,toks:=t1 } [] _ (Z.keep (λc o e _=>kk c o e) nd (let⟨o,_,_,ho,_⟩:=d1;⟨o,ho⟩)) d1 (by simpa using hsz) λh' t' d' f'=>?_
 rw[drop_zero,merged_nil_of_nodup _ (by rw[List.map_fst_zip (by simp;omega)];exact hn)]at d';exact⟨rfl,q h' t' d' λc o n1 n2 n3 n4 e=>f' c o n1 n2 n3 n4 (n0 e).symm (kk c o e)⟩
end
def xA:bootBuiltins "dict"=some (.type "dict"):=by decide+kernel
def Cd {P:Program}{w:World}:∀ {ks:List Key}{us:List Value},Vals (ks.map kV) us->∀ (j:Nat) u,us[j]? =some u->∃ k,ks[j]? =some k/\(ao P w).is k u=true
 | [],_,.nil,j,u,h=>by simp at h
 |k::ks,_,.cons r rs,0,u,h=>by
  simp at h;subst h;exact⟨k,rfl,nU r⟩
 |k::ks,_,.cons r rs,j+1,u,h=>by
  simp at h;obtain⟨k',e1,e2⟩:=Cd (P:=P) (w:=w) rs j u h;exact⟨k',by simpa using e1,e2⟩
def B3:∀ {ks:List Key}{ys:List V}{us:List Value},Vals ys us->KV (ks.zip ys) (ks.zip us)
 | [],_,_,_=>by simp[List.zip];exact .nil
 |_::_,_,_,.nil=>.nil
 |k::ks,_,_,.cons r rs=>.cons ⟨rfl,r⟩ (B3 rs)
abbrev Kb (K:W.Frag)(v u:V)(H:Hp)(Q:VK):Prop:=∃ tp1 l1 tp2 l2,∃ (ks:List Key) (ys:List V),v=.ref l1/\u=.ref l2/\Sq K tp1 H l1 (ks.map kV)/\Sq K tp2 H l2 ys/\ks.Nodup/\ks.length=ys.length/\ks.length<=1000/\∀ p,H p=none->Q (.ref p) (upd H p (.dK (ks.zip ys)))
abbrev KN (K:W.Frag)(ta:TA):TE:=λU H Q=>ta U H λvs H1=>∃ v u,vs=[v,u]/\Kb K v u H1 Q
def zU {a b:Expr}{ta:TA}{p p2 pos2:Pos}(hc:X.calm=true)(hg:Gl X "dict") (hm:X.mg "dict"=none) (hg2:Gl X "zip") (hm2:X.mg "zip"=none) (ha:PA X [a,b] ta)
  (hs:bm [a,b] X.env=(false,eval a X.env)::bm [b] X.env:=by rfl) (hpl:(backTo pos2 (bm [b] X.env)).any (·.1)=false:=by rfl):
  PE X (.Call (.Name "dict" p) [.Call (.Name "zip" p2) [a,b] [] pos2] [] pos) (KN X.K ta):=by
 intro Y s U H Q I h;have h1:bm [.Call (.Name "zip" p2) [a,b] [] pos2] X.env=[(false,eval (.Call (.Name "zip" p2) [a,b] [] pos2) X.env)]:=rfl;refine Call_ (bN I hg hm xA (PyProof.Rows.callWith_type1 ?_ h1 rfl));rw[h1];show wpAny _ _ (spliced ((false,eval (.Call (.Name "zip" p2) [a,b] [] pos2) X.env)::backTo pos [])) _ _ _;refine Calls.spliced_cons ?_;refine Call_ (bN I hg2 hm2 vD (PyProof.Rows.callWith_type1 (ax (ha pos2 Y s U H _ I h) λus s1 ⟨vs,H1,I1,r1,q1⟩=>?_) hs hpl));obtain⟨v,u,e,tp1,l1,tp2,l2,ks,ys,e1,e2,q1,q2,kn,kl,kz,q⟩:=q1;subst e e1 e2;cases r1 with
 |cons r rr=>
  cases rr with
  |cons r' rr'=>
   cases rr';cases r;cases r';obtain⟨is1,v1,t1⟩:=I1.sq q1;obtain⟨is2,v2,t2⟩:=I1.sq q2;refine om t1 t2 λh' hz hI hO g1 g2 hsz hk=>?_
   refine Calls.spliced_nil ?_;have n1:is1.length=ks.length:=by rw[<-v1.length,ci]
   have n2:is2.length=ks.length:=by rw[<-v2.length,kl]
   refine lN (s:={ s1 with heap:=h' }) (knd:=ao X.prog X.w) (I1.ok.hd hc) (xS t1.lt t2.lt) ks (λj x hx=>Cd v1 j x (by simpa using hx)) (by simp;omega) kn (by simp;omega) (by simp;rw[n1];exact fits kz)
    ⟨.inl ⟨_,hz⟩,hI,⟨_,_,hO⟩,g1,g2,t1.to λo e=>hk _ o e,t2.to λo e=>hk _ o e⟩ ⟨_,hz⟩ λh2 t2' d2 f2=>?_
   have lt0:∀ {c o},s1.heap.get? c=some o->c<s1.heap.objs.size:=λe=>ut e
   have hfree:H1 h'.objs.size=none:=I1.hok.fresh (by rw[hsz];exact Nat.le_add_right _ _);refine⟨.ref h'.objs.size,_,I1.laid (a:=h'.objs.size) (o:=.dK (ks.zip ys)) (t':=t2') (λc o e=>?_) (by rw[hsz];exact Nat.le_add_right _ _) ⟨?_,?_,_,B3 v2,by simpa using d2⟩,rfl,q _ hfree⟩
   .have hl:=lt0 e;refine f2 c o (pi (nw hl (Nat.le_add_right _ _))) (pi (nw hl (Nat.le_add_right _ _))) (pi hl) (pi (nw hl (Nat.le_add_right _ _))) (hk c o e)
   .rw[length_zip];exact fits (Nat.le_trans (Nat.min_le_left _ _) kz)
   .exact beq_eq_false_iff_ne.mpr (Nat.ne_of_gt (nw I1.big (by rw[hsz];exact Nat.le_add_right _ _)))
section
variable {X:Cx}{Y:K2}{U:St}{H:Hp}{s:Shared}{a:Addr}{kvs:List (Key×V)}{A:Around}{E:K1}
def wz {Q:K1}(I:Inv X Y U H s)(e:Rd H a (.dK kvs))(h:∀ p s',H p=none->Inv X Y U (upd H p (.dK kvs)) s'->Q (.ref p) s'):wpAny (model X.prog X.w) A (call (.type "dict") [.ref a]) Q E s:=by
 obtain⟨z,hd,vs,rel,dd⟩:=ij I.hok e;refine kt_call_dict hd dd (by rw[<-rel.length];exact z) λh' dd' hs=>?_
 refine h _ _ (I.hok.fresh (re _)) (I.laid (a:=s.heap.objs.size) (o:=.dK kvs) (t':=s.toks) (λb q hq=>?_) (re _) (rF z (beq_eq_false_iff_ne.mpr (Ne.symm (pi I.big))) rel dd'));exact(hs.2 b (pi (ut hq))).trans (ul _ hq)
end
variable {A:Around}
section
variable {X:Cx}{Y:K2}{U:St}{H:Hp}{s:Shared}
def qi {x:V}{u t:Value}(I:Inv X Y U H s)(rx:RelV x u)(ty:gu X.K H x t):∃ P:Heap->Prop,KitX X.K u t P/\P s.heap/\u≠.builtin "__main__.__loader__#opaque":=by
 cases ty with
 |non=>cases(show u=Value.none from rx);exact⟨_,kitx_none,True.intro,λz=>nomatch z⟩
 |bl y=>cases(show u=Value.bool y from rx);exact⟨_,kitx_bool,True.intro,λz=>nomatch z⟩
 |int i=>obtain⟨t,q⟩:=(show ∃ t,u=Value.int i t from rx);cases q;exact⟨_,kitx_int,True.intro,λz=>nomatch z⟩
 |str y=>obtain⟨t,q⟩:=(show ∃ t,u=Value.str y t from rx);cases q;exact⟨_,kitx_str,True.intro,λz=>nomatch z⟩
 |flt y=>obtain⟨t,q⟩:=(show ∃ t,u=Value.float y t from rx);cases q;exact⟨_,kitx_float,True.intro,λz=>nomatch z⟩
 | @lst a xs ea=>
  cases(show u=Value.ref a from rx);obtain⟨_,_,n,_,h1⟩:=(show au X.prog X.w H s.heap a (.lst xs) from I.hok a _ ea);exact⟨_,kitx_list,⟨_,h1,rfl⟩,λz=>nomatch z⟩
 | @iJ a ob xs ea=>
  cases(show u=Value.ref a from rx);obtain⟨_,_,_,n,_,h1⟩:=(show au X.prog X.w H s.heap a (.iJ ob (.lst xs)) from I.hok a _ ea);exact⟨_,kitx_list,⟨_,h1,rfl⟩,λz=>nomatch z⟩
 | @tup a xs ea=>
  cases(show u=Value.ref a from rx);obtain⟨_,_,_,p⟩:=(show au X.prog X.w H s.heap a (.tup xs) from I.hok a _ ea);obtain⟨o,h1,h2,_⟩:=p;exact⟨_,kitx_tuple,⟨o,h1,h2⟩,λz=>nomatch z⟩
 | @dK a kvs ea=>
  cases(show u=Value.ref a from rx);obtain⟨_,_,vs,_,p⟩:=(show au X.prog X.w H s.heap a (.dK kvs) from ea.ok I.hok);obtain⟨o,es,ep,h1,h2,_⟩:=p;exact⟨_,kitx_dict,⟨o,h1,h2.1⟩,λz=>nomatch z⟩
 | @dT a kvs ea=>
  cases(show u=Value.ref a from rx);obtain⟨_,_,xs,_,o,es,ep,h1,h2,_⟩:=(show au X.prog X.w H s.heap a (.dT kvs) from I.hok a _ ea);exact⟨_,kitx_dict,⟨o,h1,h2.1⟩,λz=>nomatch z⟩
 | @ins a C dx fs ea cl ha hn htk hm=>
  cases(show u=Value.ref a from rx);obtain⟨mA,O,_⟩:=eB I.hok ea;obtain⟨od,J,_⟩:=O.look;exact⟨_,kitx_own (cl.get _) cl.hd ha hn htk hm,J,λz=>nomatch z⟩
def m9 {Q:K1}{u t:Value}{p:Addr}{cs:List Addr}{b:Bool}{P:Heap->Prop}(I:Inv X Y U H s)(Z:KitX X.K u t P)(hp:P s.heap)(hx:u≠.builtin "__main__.__loader__#opaque")
  (ep:H p=some (.tup (cs.map V.ref))) (e:kitAny X.K t (cs.map Value.ref)=some b) (h:∀ tk,Q (.bool b) { s with toks:=tk }):wpAny (model X.prog X.w) A (call (.builtin "isinstance") [u,.ref p]) Q E s:=by
 obtain⟨its,r,pl,_⟩:=I.tuple (aX.of ep);have er:∀ {cs:List Addr}{us:List Value},Vals (cs.map V.ref) us->us=cs.map Value.ref:=by
  intro cs
  induction cs with
  |nil=>intro us h;cases h;rfl
  |cons c cs ih=>
   intro us h;cases h with
   |cons r1 r2=>
    rw[ih r2,show _=Value.ref c from r1]
    rfl
 obtain rfl:=er r;obtain⟨⟨c,d,da,sl⟩,h1,h2,n,h3⟩:=(show s.heap.IsTuple p (cs.map Value.ref).toArray from pl);subst h2;obtain rfl:=h3;exact kia_tup Z I.bF hp h1 e hx h
end
def Hq (d:Addr)(hd:(d ==sysModules)=false)(dd:Option Addr)(ep:Nat)(sl:Array (Option Value)):Meets (Builtin.«dict.__eq__» ⟨[.ref d,.ref d],[]⟩) (λ_ R s=>s.heap.get? d=some ⟨.type "dict",dd,.dict #[] ep,sl⟩/\R (.ok (.ret (.bool true))) s):=by
 intro prog w A R s hs;obtain⟨h,g,dp,tt,os⟩:=s;obtain⟨ho,q⟩:=hs;have hT:(⟨h,g,dp,tt,os⟩:Shared).TypeIs (.ref d) "dict":=⟨_,ho,rfl⟩;unfold Builtin.«dict.__eq__»
 k_delta "equality"
 unfold Builtin.Dict.dictSlotArgs;refine ad (ad (wpAny_notOrdered_dict hT ?_));show wpAny _ _ (pure (Value.ref d,[Value.ref d]) >>= _) _ _ _;refine ad (am (am ?_));have hi:=PySem.F.kt_sub_dict;show wpAny _ _ (isInstance (.ref d) (.type "dict") >>= _) _ _ _;unfold Builtin.Dict.samePairs;simp only[Std.Legacy.Range.forIn_eq_forIn_range']
 repeat(any_goals first|assumption|wp_step)
variable {dd:Option Addr}{sl:Array (Option Value)}
def GP (hd:(d ==sysModules)=false){ep:Nat}(ho:s.heap.get? d=some ⟨.type "dict",dd,.dict #[] ep,sl⟩) (hu:A.units<cLine):SeqAt.RcAt A s (.ref d) (.ref d) true:=λprog w E Q h=>
 richCompare_meets_room (op:=.Eq) ⟨_,ho,rfl⟩ ⟨_,ho,rfl⟩ PySem.F.slot_dict_eq PySem.F.entry_dict_eq (PySem.F.args_dict_eq_2 _ _) (Hq d hd dd ep sl) ⟨ho,show Value.bool true≠Value.notImplemented/\Q (.bool true) s from⟨(λx=>nomatch x),h⟩⟩ hu
abbrev w4 (K:W.Frag)(H:Hp)(a:Addr):Prop:=(∃ xs,ba K H a xs)\/(∃ xs,aX K H a xs)\/H a=some (.dK [])
def BM {a:Addr}(I:Inv X Y U H s)(h:w4 X.K H a)(hu:A.units+2<cLine):SeqAt.RcAt A s (.ref a) (.ref a) true:=by
 rcases h with⟨xs,h⟩|⟨xs,h⟩|h
 .obtain⟨ia,ra,pa,_⟩:=I.list h;have rc:=SeqAt.RcAt.lists (A:=A) (e:=λ_=>true) pa.isList pa.isList rfl nofun λj h1 h2=>SeqAt.EqAt.same _
  have e:(List.range ia.toArray.size).all (λ_=>true)=true:=by simp
  rwa [e]at rc
 .obtain⟨ia,ra,pa,_⟩:=I.tuple h;have rc:=SeqAt.RcAt.tuples (A:=A) (e:=λ_=>true) (show s.heap.IsTuple a ia.toArray from pa) (show s.heap.IsTuple a ia.toArray from pa) nofun λj h1 h2=>SeqAt.EqAt.same _
  have e:((List.range (min ia.toArray.size ia.toArray.size)).all (λ_=>true)&&ia.toArray.size ==ia.toArray.size)=true:=by simp
  rwa [e]at rc
 .obtain⟨z,hd,vs,rel,dd⟩:=ij I.hok (.inl h);cases rel;obtain⟨⟨c,d,da,sl⟩,es,ep,ho,hx,he,_,hp,_⟩:=dd;have e0:es=#[]:=by
   cases hp':es.toList with
   |nil=>exact Array.toList_eq_nil_iff.mp hp'
   |cons a b=>rw[hp']at hp;cases hp
  subst e0;obtain rfl:da=.dict #[] ep:=he;obtain⟨rfl,_⟩:=hx;exact GP hd ho nofun
section
variable {prog:Program}{w:World}{A:Around}{E:K1}{s:Shared}{T:String}{r d:Addr}{n:Nat}{P:Nat->Value->Prop}{OK:Heap->Prop}
def n6 {Q:List Value->Shared->Prop}(K:KdlSrc prog w T r d n P OK)(hh:A.handled=none)(hok:OK s.heap)(hn:n<=bn)
  (hQ:∀ h' tk (acc:Array Value),(∀ b o,s.heap.get? b=some o->h'.get? b=some o)->ItemsOf P acc n->Q acc.toList { s with heap:=h',toks:=tk }):wpAny (model prog w) A (collect (.ref r)) Q E s:=by
 have hlt:=K.there _ hok;unfold collect;refine ad (wpAny_runValue (codeAny_builtin PySem.F.entry_proto_collect ?_));rw[Around.under_plainId PySem.F.plain_proto_collect _];show wpAny _ A.in1 (newList [] >>= λz=>again (.builtin "list.__iadd__" ⟨[z,.ref r],[]⟩)) _ _ s;refine ad (wpAny_newObj_type (am ⟨plainId_quiet PySem.F.plain_list_iadd _,codeAny_builtin PySem.F.entry_list_iadd ?_⟩));rw[Around.under_plainId PySem.F.plain_list_iadd _];show wpAny _ A.in1 (Builtin.List.listExtendWith (.ref s.heap.objs.size) (.ref r) (.ref s.heap.objs.size)) _ _ _;have hS:(s.heap.push { cls:=.type "list",data:=.seq ([]:List Value).toArray }).get? s.heap.objs.size=some { cls:=.type "list",data:=.seq #[] 0 }:=v0 s.heap rfl;have fin:∀ (x:Result) (s':Shared),(x=.ok (.ret (.ref s.heap.objs.size))/\∃ h' tk acc c',s'={ s with heap:=h',toks:=tk }/\(∀ b o,s.heap.get? b=some o->h'.get? b=some o)/\h'.get? s.heap.objs.size=some { cls:=.type "list",dict:=none,data:=.seq acc c',slots:=#[] }/\ItemsOf P acc n)->
   wpAny (model prog w) A (match Value.ref s.heap.objs.size with
    |Value.ref a=>do
     match (<-load a).data with
      |Data.seq xs _=>pure xs.toList
      |_=>unsupported "internal:collect"
    |_=>unsupported "internal:collect") Q E s':=λx s' ⟨_,h',tk,acc,c',e,hk,ho,hi⟩=>by
  subst e;show wpAny _ A (load s.heap.objs.size >>= _) _ _ _;exact ad (wpAny_load ho (am (hQ h' tk acc hk hi)))
 refine wpAny_mono (kdl_extend (A:=A) (s:={ s with heap:=s.heap.push { cls:=.type "list",data:=.seq ([]:List Value).toArray } })
  (R:=λx s'=>x=.ok (.ret (.ref s.heap.objs.size))/\∃ h' tk acc c',s'={ s with heap:=h',toks:=tk }/\(∀ b o,s.heap.get? b=some o->h'.get? b=some o)/\h'.get? s.heap.objs.size=some { cls:=.type "list",dict:=none,data:=.seq acc c',slots:=#[] }/\ItemsOf P acc n)
  K hh (K.keep _ _ hok λb _ o e=>ul _ e) s.heap.objs.size (Nat.ne_of_gt hlt.1) (Nat.ne_of_gt hlt.2) (.ref s.heap.objs.size) 0 hS (λh' tk acc c' hk ho hi=>⟨rfl,h',tk,acc,c',rfl,λb o e=>hk b o (pi (ut e)) (ul _ e),ho,hi⟩) hn) (λfi s' h=>?_) (λe s' h=>?_)
 .cases fi with
  |done f=>
   have hf:=h.1;cases hf;exact fin _ _ h
  |again c'=>exact⟨h.1,codeAny_mono h.2 λx s'' hx=>by
    have e:=hx.1;subst e;exact fin _ _ hx⟩
 .exact absurd h.1 (by simp)
def kC {Q₁:K1}(K:KdlSrc prog w T r d n P OK)(hT0:(T =="tuple")=false) (hh:A.handled=none) (hok:OK s.heap) (hn:n<=bn)
  (h:∀ (h':Heap) (tk:Nat) (acc:Array Value),(∀ b o,s.heap.get? b=some o->h'.get? b=some o)->ItemsOf P acc n->Q₁ (.ref h'.objs.size) { s with heap:=h'.push { cls:=.type "tuple",data:=.seq acc },toks:=tk }):
  codeAny (model prog w) A (.call (.builtin "tuple.__new__") ⟨[.type "tuple",.ref r],[]⟩) (wants Q₁ E) s:=by
 refine codeAny_of_tree ?_;show wpAny _ A.in1 (do checkBuiltinCall "tuple.__new__" ⟨[.type "tuple",.ref r],[]⟩;again (.builtin "tuple.__new__" ⟨[.type "tuple",.ref r],[]⟩)) _ _ s;refine ad (wpAny_of_eq (PySem.F.newCall_tuple_1 _) (am ⟨plainId_quiet PySem.F.plain_tuple_new _,codeAny_builtin PySem.F.entry_tuple_new ?_⟩));rw[Around.under_plainId PySem.F.plain_tuple_new _];have h1:=sub_tuple_self;have h2:=init_tuple_lookup;have h3:=madeHere_tuple;have hTI:=K.type s hok;have h4:=K.notTuple
 wp_walk using wpAny_typeOf hTI,n6 (A:=A.in1) K hh hok hn
 intro h' tk acc hk hi;show wpAny _ _ (Builtin.Tuple.tupleExact acc.toList.toArray >>= λz=>ret z) _ _ _;unfold Builtin.Tuple.tupleExact;have e:acc.toList.toArray=acc:=Array.toArray_toList;rw[e];refine ad (wpAny_newObj_type (am ?_) (by show acc.size<=bn;rw[hi.1];exact hn));exact h h' tk acc hk hi
def jm {Q:K1}(K:KdlSrc prog w T r d n P OK)(hT0:(T =="tuple")=false) (hh:A.handled=none) (hok:OK s.heap) (hn:n<=bn)
  (h:∀ (h':Heap) (tk:Nat) (acc:Array Value),(∀ b o,s.heap.get? b=some o->h'.get? b=some o)->ItemsOf P acc n->Q (.ref h'.objs.size) { s with heap:=h'.push { cls:=.type "tuple",data:=.seq acc },toks:=tk }):
  wpAny (model prog w) A (call (.type "tuple") [.ref r]) Q E s:=by
 refine callType_codes (Q₁:=λz s₁=>s₁.TypeIs z "tuple"/\Q z s₁) PySem.F.called_tuple (PySem.F.typeCall_tuple_1 _) PySem.F.entry_object_init (kC K hT0 hh hok hn λh' tk acc hk hi=>⟨⟨_,v0 _ rfl,rfl⟩,h h' tk acc hk hi⟩) λz s₁ g=>?_
 exact⟨g.1,PySem.F.args_object_init_2 z _,object_init_meets PySem.F.called_tuple.init.lookup PySem.F.called_tuple.made (by decide) prog w A.in1 _ s₁ ⟨g.1,rfl,g.2⟩⟩
end
def xk:bootBuiltins "list"=some (.type "list"):=by decide+kernel
def uD:bootBuiltins "tuple"=some (.type "tuple"):=by decide+kernel
abbrev y8 (tp:Bool)(xs:List V):HO:=match tp with
 |true=>.tup xs
 |false=>.lst xs
abbrev jI (tp:Bool):String:=match tp with
 |true=>"tuple"
 |false=>"list"
abbrev Az (tp:Bool):Str:=match tp with
 |true=>"tuple"
 |false=>"list"
abbrev BU (tp:Bool)(x:V)(H:Hp)(Q:VK):Prop:=∃ d kvs,x=.ref d/\H d=some (.dK kvs)/\∀ p,H p=none->Q (.ref p) (upd H p (y8 tp (kvs.map (·.2))))
def mK:∀ {kvs:List (Key×V)}{vs:List (Key×Value)},KV kvs vs->Vals (kvs.map (·.2)) (vs.map (·.2))
 |_,_,.nil=>.nil
 |_,_,.cons r rs=>.cons r.2 (mK rs)
def uu {Q:VK}{kvs:List (Key×V)}(tp:Bool)(hc:X.calm=true)(I:Inv X Y U H s)(e:H d=some (.dK kvs))(q:∀ p,H p=none->Q (.ref p) (upd H p (y8 tp (kvs.map (·.2))))):
  wpAny (model X.prog X.w) X.A (call (.builtin "dict.values") [.ref d]) (λv s1=>wpAny (model X.prog X.w) X.A (call (.type (jI tp)) [v]) (EP X Y U Q) X.xe s1) X.xe s:=by
 obtain⟨hz,hd,vs,rel,dd⟩:=ij I.hok (.inl e);refine call_meetsIn PySem.F.slot_dict_values dd.typeIs PySem.F.entry_dict_values (PySem.F.args_dict_values_1 _) (meets_dict_values (ao X.prog X.w) d hd) ⟨⟨vs,dd⟩,?_⟩;obtain⟨o,es,ep,ho,hx,he,hk,hp,hn⟩:=dd;have hA:s.heap.DictAt (ao X.prog X.w) d vs ep:=⟨o,es,ho,hx,he,hk,hp,hn⟩;have hok:(s.heap.push { cls:=.type "dict_values",data:=.fields #[.ref d] }).IsValuesView s.heap.objs.size d/\(s.heap.push { cls:=.type "dict_values",data:=.fields #[.ref d] }).DictAt (ao X.prog X.w) d vs ep:=⟨⟨_,v0 _ rfl,rfl,rfl⟩,hA.push _⟩;have hl:vs.length<=bn:=by rw[<-rel.length];exact hz
 have hv:∀ (acc:Array Value),ItemsOf (λi v=>∃ k,vs[i]? =some (k,v)) acc vs.length->acc.toList=vs.map (·.2):=λacc hi=>kdl_vals_eq acc.toList (by rw[Array.length_toList];exact hi.1) λj v hj=>hi.2 j v (by rw[<-Array.getElem?_toList];exact hj)
 have I0:Inv X Y U H { s with heap:=s.heap.push { cls:=.type "dict_values",data:=.fields #[.ref d] } }:=I.kept (t':=s.toks) λb u hb=>ul _ hb
 have hlen:(kvs.map (·.2)).length<=bn:=by rw[ci];exact hz
 cases tp with
 |false=>
  refine kdl_call (s:={ s with heap:=s.heap.push { cls:=.type "dict_values",data:=.fields #[.ref d] } }) (kdl_values (prog:=X.prog) (w:=X.w) (knd:=ao X.prog X.w) (r:=s.heap.objs.size) (d:=d) (kvs:=vs) (ep:=ep)) (I.ok.hd hc) hok hl λh' tk acc c' hk' hD hi=>?_
  have ea:=hv acc hi;refine⟨.ref _,_,I0.laid (t':=tk) hk' (re _) (show au X.prog X.w _ h' _ (.lst (kvs.map (·.2))) from⟨hlen,acc.toList,c',by rw[ea];exact mK rel,by rw[Array.toArray_toList];exact hD⟩),rfl,q _ (I0.hok.fresh (re _))⟩
 |true=>
  refine jm (s:={ s with heap:=s.heap.push { cls:=.type "dict_values",data:=.fields #[.ref d] } }) (kdl_values (prog:=X.prog) (w:=X.w) (knd:=ao X.prog X.w) (r:=s.heap.objs.size) (d:=d) (kvs:=vs) (ep:=ep)) (by decide) (I.ok.hd hc) hok hl λh' tk acc hk' hi=>?_
  have ea:=hv acc hi;have I1:Inv X Y U H { s with heap:=h',toks:=tk }:=I0.kept (t':=tk) hk';have I2:Inv X Y U (upd H h'.objs.size (.tup (kvs.map (·.2)))) { s with heap:=h'.push { cls:=.type "tuple",data:=.seq acc },toks:=tk }:=
   I1.laid (t':=tk) (λb u hb=>ul _ hb) (re _) (show au X.prog X.w _ _ _ (.tup (kvs.map (·.2))) from⟨hlen,acc.toList,by rw[ea];exact mK rel,by rw[Array.toArray_toList];exact IsTup.new _ _⟩)
  exact⟨.ref h'.objs.size,_,I2,rfl,q _ (I1.hok.fresh (re _))⟩
abbrev Hi (tp:Bool)(ta:TE):TE:=λU H Q=>ta U H λx H1=>BU tp x H1 Q
def AF {a:Expr}{ta:TE}{p apos cpos:Pos}(tp:Bool)(hc:X.calm=true)(hg:Gl X (Az tp))(hm:X.mg (Az tp)=none)(ha:PE X a ta)(hb:attributeBase a "values" X.env (eval a X.env)=eval a X.env) (hl:(apos.endLine ==cpos.line)=true):
  PE X (.Call (.Name (Az tp) p) [.Call (.Attribute a "values" apos) [] [] cpos] [] pos) (Hi tp ta):=by
 intro Y s U H Q I h;have h1:bm [.Call (.Attribute a "values" apos) [] [] cpos] X.env=[(false,eval (.Call (.Attribute a "values" apos) [] [] cpos) X.env)]:=rfl;have go:wpAny (model X.prog X.w) X.A (eval (.Call (.Attribute a "values" apos) [] [] cpos) X.env) (λv s1=>wpAny (model X.prog X.w) X.A (call (.type (jI tp)) [v]) (EP X Y U Q) X.xe s1) X.xe s:=by
  refine wpAny_Call_method0_late hb hl (ax (ha Y s U H _ I h) λv s1 ⟨x,H1,I1,r1,q1⟩=>?_);obtain⟨d,kvs,ex,e,q⟩:=q1;subst ex;obtain⟨g1,g2⟩:=rH (T:="dict") I1 r1 (.inr (.inr (.inl ⟨rfl,.inl ⟨kvs,e⟩⟩)));cases r1;exact⟨"dict","dict.values",PySem.F.plainAttrs_dict,PySem.F.slot_dict_values,PySem.F.type_dict_values,g1,g2,Calls.callWith_builtin rfl (PySem.evalArgs_none (uu tp hc I1 e q))⟩
 cases tp with
 |true=>
  refine Call_ (bN I hg hm uD (PyProof.Rows.callWith_type1 ?_ h1 rfl));rw[h1];show wpAny _ _ (spliced ((false,eval (.Call (.Attribute a "values" apos) [] [] cpos) X.env)::backTo pos [])) _ _ _;exact Calls.spliced_cons (ax go λv s1 z=>Calls.spliced_nil z)
 |false=>
  refine Call_ (bN I hg hm xk (PyProof.Rows.callWith_type1 ?_ h1 rfl));rw[h1];show wpAny _ _ (spliced ((false,eval (.Call (.Attribute a "values" apos) [] [] cpos) X.env)::backTo pos [])) _ _ _;exact Calls.spliced_cons (ax go λv s1 z=>Calls.spliced_nil z)
abbrev yS (K:W.Frag)(C:Addr):Bool:=findIn K (.ref C) "__eq__" ==some (some (.builtin "object.__eq__"))&&subIn K (.ref C) (.type "str") ==some false&&subIn K (.ref C) (.type "object") ==some true
def qI {prog:Program}{w:World}{K:Frag}{C:Addr}{R:Result->Shared->Prop}(X:K.In s.heap)(hm:makesIn K C=true)(hi:findIn K (.ref C) "__init__"=some (some (.builtin "object.__init__")))
  (h:R (.ok (.ret (.ref (s.heap.objs.size+1)))) { s with heap:=(s.heap.push emptyDict).push (instObj C s.heap.objs.size) }):codeAny (model prog w) A (.call (.ref C) ⟨[],[]⟩) R s:=by
 obtain⟨hh,g,d,t,os⟩:=s;have Y:=makes_of (M:=model prog w) X hm;refine make_core Y (looks_findIn X hi) (λz=>Looks.of_pure (oi_bind z)) (.inr ⟨rfl,rfl⟩) ?_;have k:∀ b o,hh.get? b=some o->((hh.push emptyDict).push (instObj C hh.objs.size)).get? b=some o:=λb o e=>ul _ (ul _ e)
 have hx:((hh.push emptyDict).push (instObj C hh.objs.size)).get? (hh.objs.size+1)=some (instObj C hh.objs.size):=by heap_get
 have t1:Looks (model prog w) ((hh.push emptyDict).push (instObj C hh.objs.size)) (typeOf (.ref (hh.objs.size+1))) (.ref C):=Looks.andThen (Looks.ld hx) .now;have t2:Looks (model prog w) ((hh.push emptyDict).push (instObj C hh.objs.size)) (isInstance (.ref (hh.objs.size+1)) (.type "object")) true:=t1.andThen (Y.top.keeps k);refine codeAny_call_builtin oi_plain entry_oi (@check_slot (model prog w) _ _ _ "object.__init__" "object" "__init__" (.ref (hh.objs.size+1)) [] [] _ oi_kind oi_split t2 (oi_args _) ?_);rw[oi_run];exact am ⟨rfl,h⟩
structure JZ (K:Frag) (C:Addr):Prop where
 makes:makesIn K C=true
 init:findIn K (.ref C) "__init__"=some (some (.builtin "object.__init__"))
 kp:keepIn K (.ref C)=true
abbrev JA (C:Addr):TE:=λ_ H Q=>∀ x dx,H x=none->H dx=none->dx≠x->Q (.ref x) (upd (upd H dx (.own x)) x (.ins C dx []))
def vM {C:Addr}{x:Str}{p:Pos}(M:JZ X.K C)(hg:Gl X x)(hm:X.mg x=some (.ref C))(hdb:(x ==("__debug__":Str))=false):PE X (.Call (.Name x p) [] [] pos) (JA C):=by
 intro Y s U H Q I h;refine bv (bg I hg hm ?_ hdb);refine W.callWith_K0 I.bF M.kp (wpAny_call (qI I.bF M.makes M.init ?_));have I2:=Inv.made (C:=C) I;exact⟨.ref (s.heap.objs.size+1),_,I2,rfl,h (s.heap.objs.size+1) s.heap.objs.size (I.hok.fresh (Nat.le_succ _)) (I.hok.fresh (re _)) (pi (Nat.lt_succ_self _))⟩
@[reducible]def VV:List (V×V)->List (Value×Value)->Prop:=Paired λp q=>RelV p.1 q.1/\RelV p.2 q.2
abbrev PQ (X:Cx)(pos:Pos)(keys:List (Option Expr))(values:List Expr)(t:St->Hp->(List (V×V)->Hp->Prop)->Prop):Prop:=
 ∀ (Y:K2) (s:Shared) (U:St) (H:Hp) (Q:List (V×V)->Hp->Prop),Inv X Y U H s->t U H Q->
  wpAny (model X.prog X.w) X.A (evalPairs (pairTrees keys values X.env pos)) (λvs s'=>∃ ps H',Inv X Y U H' s'/\VV ps vs/\Q ps H') X.xe s
def Ee:PQ X pos [] [] (λ_ H Q=>Q [] H):=λY s U H Q I h=>pairTrees_nil_walk ⟨[],H,I,.nil,h⟩
variable {t:St->Hp->(List (V×V)->Hp->Prop)->Prop}
def zk {k v:Expr}{ks:List (Option Expr)}{vs:List Expr}{tk tv:TE}(hk:PE X k tk)(hv:PE X v tv)(hr:PQ X pos ks vs t):
  PQ X pos (some k::ks) (v::vs) (λU H Q=>tk U H λx H1=>tv U H1 λy H2=>t U H2 λps H3=>Q ((x,y)::ps) H3):=λY s U H Q I h=>
 pairTrees_cons_walk (ax (hk Y s U H _ I h) λu s1 ⟨x,H1,I1,rx,q1⟩=>ax (hv Y s1 U H1 _ I1 q1) λw2 s2 ⟨y,H2,I2,ry,q2⟩=>
  ax (hr Y s2 U H2 _ I2 q2) λws s3 ⟨ps,H3,I3,rel,q3⟩=>⟨(x,y)::ps,H3,I3,.cons ⟨rx,ry⟩ rel,q3⟩)
abbrev gU (kvs more:List (Key×V)):List (Key×V):=more.foldl (λacc kv=>putK acc kv.1 kv.2) kvs
def KV.merge:∀ {more:List (Key×V)}{rs:List (Key×Value)}{kvs:List (Key×V)}{vs:List (Key×Value)},KV more rs->KV kvs vs->KV (gU kvs more) (merged vs rs):=by
 intro more rs kvs vs r;unfold KV at r
 induction r generalizing kvs vs with
 |nil=>intro q;exact q
 | @cons p q ps qs h t ih=>
  intro r0;have e:KV (putK kvs p.1 p.2) (stored vs q.1 q.2):=by
   have:=r0.put p.1 h.2;rw[<-h.1];exact this
  exact ih e
def fg:∀ (more kvs:List (Key×V)),(gU kvs more).length<=kvs.length+more.length
 | [],kvs=>by show kvs.length<=kvs.length+0;omega
 |p::r,kvs=>by
  have h1:=fg r (putK kvs p.1 p.2);have h2:=dD kvs p.1 p.2;show(gU (putK kvs p.1 p.2) r).length<=_;rw[length_cons];omega
def jl {P:Program}{w:World}:∀ {kvs:List (Key×V)}{ws:List (Value×Value)},VV (kvs.map λkv=>(kV kv.1,kv.2)) ws->∃ rs,Carries (ao P w) ws rs/\KV kvs rs
 | [],_,r=>by rw[List.map_nil]at r;cases r;exact⟨[],True.intro,.nil⟩
 |p::kvs,_,r=>by
  rw[map_cons]at r;cases r with
  | @cons a b as bs h t=>
   obtain⟨rs,c,q⟩:=jl (P:=P) (w:=w) t;obtain⟨b1,b2⟩:=b;exact⟨(p.1,b2)::rs,⟨nU h.1,rfl,c⟩,.cons ⟨rfl,h.2⟩ q⟩
abbrev Ga (t:St->Hp->(List (V×V)->Hp->Prop)->Prop):TE:=λU H Q=>∀ p,H p=none->t U (upd H p (.dK [])) λps H2=>H2 p=some (.dK [])/\∃ kvs:List (Key×V),ps=kvs.map (λkv=>(kV kv.1,kv.2))/\kvs.length<=15/\Q (.ref p) (upd H2 p (.dK (gU [] kvs)))
def zY {keys:List (Option Expr)}{values:List Expr}(h:PQ X pos keys values t)(hall:keys.all (·.isSome)=true)(hl:keys.length=values.length)(h0:keys≠[])
  (h15:keys.length<=15):PE X (.Dict keys values pos) (Ga t):=by
 intro Y s U H Q I q;have hn:=I.hok.fresh (re s.heap.objs.size);have I1:=I.laid (a:=s.heap.objs.size) (o:=.dK []) (h':=s.heap.push { cls:=.type "dict",data:=.dict #[] }) (t':=s.toks) (λ_ _ q=>ul _ q) (re _) (xh s.heap I.big);refine wpAny_Dict_walk (knd:=ao X.prog X.w) hall hl h0 h15 (ax (h Y _ U _ _ I1 (q _ hn)) λws s2 ⟨ps,H2,I2,rel,e,kvs,ep,lk,q2⟩=>?_);subst ep;obtain⟨rs,c,rk⟩:=jl (P:=X.prog) (w:=X.w) rel;obtain⟨z,hd,vs0,r0,dd⟩:=CD I2.hok e;cases r0;refine⟨rs,c,dd,λh' dd' hs=>⟨.ref s.heap.objs.size,_,?_,rfl,q2⟩⟩;have hz:(gU [] kvs).length<=bn:=by
  have h1:=fg kvs [];rw[length_nil]at h1;rw[sizeLine_eq];omega
 have he:∃ q,h'.get? s.heap.objs.size=some q:=let⟨q,_,_,hq,_⟩:=dd';⟨q,hq⟩;exact mr I2 (by rw[e];exact True.intro) hs he (rF hz hd (rk.merge .nil) dd')
abbrev qz (K:W.Frag)(C:Addr):Bool:=findIn K (.ref C) "__ne__" ==some (some (.builtin "object.__ne__"))&&yS K C
section
variable {A:Around}{s:Shared}{l C dx:Addr}{od:Option Obj}{K:W.Frag}{prog:Program}{w:World}{E:K1}
def Gq (X:K.In s.heap)(I:InstAt s.heap l (instObj C dx) C od)(h1:findIn K (.ref C) "__eq__"=some (some (.builtin "object.__eq__"))) (h3:subIn K (.ref C) (.type "object")=some true) (h:Q (some (.bool true)) s):wpAny (model prog w) A (callSpecialIfBound? (.ref l) "__eq__" [.ref l]) Q E s:=by
 simp only[callSpecialIfBound?,bindSpecialIfBound?];refine bd (ad (ad (ad (I.type.here ((looks_findIn X h1).here ?_)))));simp only[PySem.F.cmp_object.eq.bind];have fin:wpAny (model prog w) A (call (.builtin "object.__eq__") ([.ref l]++[.ref l]) >>= λv=>pure (some v)) Q E s:=by
  refine ad (wpAny_call (codeAny_call_builtin PySem.F.cmp_object.eq.plain PySem.F.cmpEntry_eq ?_));simp only[checkBuiltinCall,PySem.F.cmpKind_eq,PySem.F.cmpSplit_eq];refine ad (ad (I.type.here ((looks_subIn X h3).here ?_)));rw[if_neg (by simp)];have ha:=PySem.F.cmpArgs_eq (.ref l) (.ref l);have h0:(match Manifest.signature? "object.__eq__" with|some sig=>Bind.checkArgs "object.__eq__" sig { pos:=[Value.ref l]++[Value.ref l] }|x=>pure ())=pure ():=ha;refine wpAny_of_eq h0 ?_;exact objEq_entry_same (am h)
 refine ad (wpAny_askSetting (wpAny_ite ?_))
 split
 .exact ad (am (am fin))
 .exact wpAny_tryCatch (ad (am (am fin)))
def GC (X:K.In s.heap)(I:InstAt s.heap l (instObj C dx) C od)(h1:findIn K (.ref C) "__eq__"=some (some (.builtin "object.__eq__"))) (h2:findIn K (.ref C) "__ne__"=some (some (.builtin "object.__ne__"))) (h3:subIn K (.ref C) (.type "object")=some true) (hu:A.units+2<cLine) (h:Q (some (.bool false)) s):wpAny (model prog w) A (callSpecialIfBound? (.ref l) "__ne__" [.ref l]) Q E s:=by
 simp only[callSpecialIfBound?,bindSpecialIfBound?];refine bd (ad (ad (ad (I.type.here ((looks_findIn X h2).here ?_)))));simp only[PySem.F.cmp_object.ne.bind];have fin:wpAny (model prog w) A (call (.builtin "object.__ne__") ([.ref l]++[.ref l]) >>= λv=>pure (some v)) Q E s:=by
  refine ad (wpAny_call (codeAny_call_builtin PySem.F.cmp_object.ne.plain PySem.F.cmpEntry_ne ?_));simp only[checkBuiltinCall,PySem.F.cmpKind_ne,PySem.F.cmpSplit_ne];refine ad (ad (I.type.here ((looks_subIn X h3).here ?_)));rw[if_neg (by simp)];have ha:=PySem.F.cmpArgs_ne (.ref l) (.ref l);have h0:(match Manifest.signature? "object.__ne__" with|some sig=>Bind.checkArgs "object.__ne__" sig { pos:=[Value.ref l]++[Value.ref l] }|x=>pure ())=pure ():=ha;refine wpAny_of_eq h0 ?_;unfold Builtin.«object.__ne__»;show wpAny _ _ (pure (Value.ref l,[Value.ref l]) >>= _) _ _ _;refine ad (am ?_);refine ad (wpAny_cRoomFor (show A.units+1<cLine by omega) ?_);refine ad (Gq X I h1 h3 ?_);refine ad (bi ?_);exact am (am h)
 refine ad (wpAny_askSetting (wpAny_ite ?_))
 split
 .exact ad (am (am fin))
 .exact wpAny_tryCatch (ad (am (am fin)))
def ux (X:K.In s.heap)(I:InstAt s.heap l (instObj C dx) C od)(hC:qz K C=true)(hu:A.units+3<cLine):SeqAt.RcNeAt A s (.ref l) (.ref l) false:=λprog w E Q h=>by
 unfold qz yS at hC;simp only[mo,beq_iff_eq]at hC;obtain⟨h0,⟨h1,h2⟩,h3⟩:=hC;simp only[richCompare,PySem.cmpInfo_NotEq]
 try with_reducible refine bd ?_
 refine ad (wpAny_cRoomFor nofun ?_);show wpAny _ _ (typeOf (Value.ref l) >>= _) _ _ _;refine ad (I.type.here (ad (I.type.here ?_)));rw[if_neg (by simp)];refine ad (am ?_);rw[if_neg (by simp)];refine ad ?_;simp only[tryCompare];refine ad (GC X I h1 h0 h3 nofun ?_);exact am (am h)
def Hl (d:Addr)(hd:(d ==sysModules)=false)(dd:Option Addr)(ep:Nat)(sl:Array (Option Value)):Meets (Builtin.«dict.__ne__» ⟨[.ref d,.ref d],[]⟩) (λ_ R s=>s.heap.get? d=some ⟨.type "dict",dd,.dict #[] ep,sl⟩/\R (.ok (.ret (.bool false))) s):=by
 intro prog w A R s hs;obtain⟨h,g,dp,tt,os⟩:=s;obtain⟨ho,q⟩:=hs;have hT:(⟨h,g,dp,tt,os⟩:Shared).TypeIs (.ref d) "dict":=⟨_,ho,rfl⟩;unfold Builtin.«dict.__ne__»
 k_delta "equality"
 unfold Builtin.Dict.dictSlotArgs;refine ad (ad (wpAny_notOrdered_dict hT ?_));show wpAny _ _ (pure (Value.ref d,[Value.ref d]) >>= _) _ _ _;refine ad (am (am ?_));have hi:=PySem.F.kt_sub_dict;show wpAny _ _ (isInstance (.ref d) (.type "dict") >>= _) _ _ _;unfold Builtin.Dict.samePairs;simp only[Std.Legacy.Range.forIn_eq_forIn_range']
 repeat(any_goals first|assumption|wp_step)
def AE (hd:(d ==sysModules)=false){ep:Nat}(ho:s.heap.get? d=some ⟨.type "dict",dd,.dict #[] ep,sl⟩) (hu:A.units<cLine):SeqAt.RcNeAt A s (.ref d) (.ref d) false:=λprog w E Q h=>
 richCompare_meets_room (op:=.NotEq) ⟨_,ho,rfl⟩ ⟨_,ho,rfl⟩ PySem.F.slot_dict_ne PySem.F.entry_dict_ne (PySem.F.args_dict_ne_2 _ _) (Hl d hd dd ep sl) ⟨ho,show Value.bool false≠Value.notImplemented/\Q (.bool false) s from⟨(λx=>nomatch x),h⟩⟩ hu
abbrev qo (K:W.Frag)(H:Hp)(a:Addr):Prop:=(∃ xs,aX K H a xs)\/H a=some (.dK [])\/(∃ C dx fs,H a=some (.ins C dx fs)/\qz K C=true)\/∃ xs,ba K H a xs
def Af {a:Addr}(I:Inv X Y U H s)(h:qo X.K H a)(hu:A.units+3<cLine):SeqAt.RcNeAt A s (.ref a) (.ref a) false:=by
 rcases h with⟨xs,h⟩|h|⟨C,dx,fs,h,hn⟩|⟨xs,h⟩
 .obtain⟨ia,ra,pa,_⟩:=I.tuple h;have rc:=SeqAt.RcNeAt.tuples (A:=A) (e:=λ_=>true) (show s.heap.IsTuple a ia.toArray from pa) (show s.heap.IsTuple a ia.toArray from pa) nofun λj h1 h2=>SeqAt.EqAt.same _
  have e:((List.range (min ia.toArray.size ia.toArray.size)).all (λ_=>true)&&ia.toArray.size ==ia.toArray.size)=true:=by simp
  rw[e]at rc;exact rc
 .obtain⟨z,hd,vs,rel,dd⟩:=ij I.hok (.inl h);cases rel;obtain⟨⟨c,d,da,sl⟩,es,ep,ho,hx,he,_,hp,_⟩:=dd;have e0:es=#[]:=by
   cases hp':es.toList with
   |nil=>exact Array.toList_eq_nil_iff.mp hp'
   |cons a b=>rw[hp']at hp;cases hp
  subst e0;obtain rfl:da=.dict #[] ep:=he;obtain⟨rfl,_⟩:=hx;exact AE hd ho nofun
 .obtain⟨mA,o,_⟩:=eB I.hok h;obtain⟨od,i,_⟩:=o.look;exact ux I.bF i hn hu
 .obtain⟨ia,ra,pa,_⟩:=I.list h;have rc:=SeqAt.RcNeAt.lists (A:=A) (e:=λ_=>true) pa.isList pa.isList rfl nofun λj h1 h2=>SeqAt.EqAt.same _
  have e:(List.range ia.toArray.size).all (λ_=>true)=true:=by simp
  rw[e]at rc;exact rc
end
end L2
namespace L2
open PySem PySem.Spec PyProof.Rows
abbrev GG (hi:Int)(n:Nat):It:=⟨λi _=>i<n,λi H x H'=>H'=H/\x=.int (hi-i),λi _=>n<=i⟩
def nS {P:Program}{w:World}{K:W.Frag}{tg:Expr}(it:Addr)(hi:Int)(n:Nat):Turn P w K Calm tg (GG hi n) [it] it (λi h=>IsRangeIter h it (hi+(i:Nat)* -1) ((n:Int)-(i:Nat)) (-1)) where
 mem:=by simp
 obj:=λi h st b hb=>by
  have e:b=it:=by simpa using hb
  subst e;exact⟨_,st,λv z=>by
   have z':Data.fields _=Data.cell v:=z;cases z'⟩
 keep:=λi h h' st k=>k it (by simp) _ st
 item:=by
  intro X hP hw hK hc i Y s U H E I hf st hg;subst hP hw hK;obtain⟨f0,f1,f2,f3,f4,f5⟩:=hf it (by simp);have W:=Walks.range (prog:=X.prog) (w:=X.w) (I.ok.hd hc) it hi (-1) n;refine W.item i s _ _ hg st λv h' tk hv st' kk=>?_
  obtain⟨t,rfl⟩:=hv;have I1:Inv X Y U H { s with heap:=h',toks:=tk }:=I.turned (λb o hb e=>kk b o (by simpa using hb) e) f0 f1 f3 f4 f5;refine⟨_,rfl,kM (s:={ s with heap:=h',toks:=tk }) (n:="range_iterator") st' rfl rfl (by decide) ⟨.int (hi-i),H,I1,⟨t,?_⟩,⟨rfl,rfl⟩,st',λb hb=>(hf b hb).1⟩⟩;rw[show hi-(i:Int)=hi+(i:Int)* -1 by omega]
 done:=by
  intro X hP hw hK hc i Y s U H E I hf st hg;subst hP hw hK;obtain⟨f0,f1,f2,f3,f4,f5⟩:=hf it (by simp);exact wpAny_pyNext_range_end (I.ok.hd hc) st (by have:n<=i:=hg;omega) λh' eb=>⟨rfl,I.turned (t':=s.toks) (λb o hb e=>eb b o hb e) f0 f1 f3 f4 f5⟩
 self:=λ_ _ _ _ _ st h=>wpAny_pyIter_rangeiter st h
def eP {a b:Int}:Builtin.Range.rangeSize a b (-1)=if a>b then a-b else 0:=by
 unfold Builtin.Range.rangeSize;rw[if_neg (by decide)];simp only[Int.neg_neg,Int.ediv_one]
 split<;>omega
def vc {a b:Int}(ha: -(2 ^ 62)<=a)(ha':a<2 ^ 62)(hb: -(2 ^ 62)<=b)(hb':b<2 ^ 62):Builtin.Range.small a b (-1)=true:=by
 unfold Builtin.Range.small;rw[eP];simp only[Builtin.Range.rangeFitsLong,mo,Bool.or_eq_true,decide_eq_true_eq,beq_iff_eq,show ¬ (-1:Int)>0 by decide,if_false]
 split<;>omega
section
variable {X:Cx}{tg:Expr}
def ub {Y:K2}{U:St}{H:Hp}{s:Shared}{R:It->Hp->Prop}{E:K1}{lo hi:Int}{t u v:Tok}{tk:Nat}(I:Inv X Y U H s)(h1: -(2 ^ 62)<=hi)(h2:hi<2 ^ 62)(h3: -(2 ^ 62)<=lo)(h4:lo<2 ^ 62)
  (q:R (GG hi (hi-lo).toNat) H):wpAny (model X.prog X.w) X.A (pyIter (.ref s.heap.objs.size)) (G9 X Y U tg R) E { s with heap:=s.heap.push { cls:=.type "range",data:=.fields #[.int hi t,.int lo u,.int (-1) v] },toks:=tk }:=by
 refine wpAny_pyIter_range (IsRange.new ..) (vc h1 h2 h3 h4) ?_;have I1:Inv X Y U H { s with heap:=s.heap.push { cls:=.type "range",data:=.fields #[.int hi t,.int lo u,.int (-1) v] },toks:=tk }:=I.kept λb o e=>ul _ e
 refine⟨(s.heap.push { cls:=.type "range",data:=.fields #[.int hi t,.int lo u,.int (-1) v] }).objs.size,[(s.heap.push { cls:=.type "range",data:=.fields #[.int hi t,.int lo u,.int (-1) v] }).objs.size],_,_,H,rfl,
  I1.kept (t':=tk) λb o e=>ul _ e,nS _ hi (hi-lo).toNat,?_,λb hb=>?_,q⟩
 .have e1:hi+((0:Nat):Int)* -1=hi:=by simp
  have e2:(((hi-lo).toNat:Nat):Int)-((0:Nat):Int)=Builtin.Range.rangeSize hi lo (-1):=by rw[eP];split<;>omega
  show IsRangeIter _ _ (hi+((0:Nat):Int)* -1) ((((hi-lo).toNat:Nat):Int)-((0:Nat):Int)) (-1);rw[e1,e2];exact v0 _ rfl
 .have e:b=(s.heap.push { cls:=.type "range",data:=.fields #[.int hi t,.int lo u,.int (-1) v] }).objs.size:=by simpa using hb
  subst e;exact I1.lL (re _) (I1.hok.fresh (re _))
abbrev FP (ta:TA):TI:=λU H R=>ta U H λvs H1=>∃ i j:Int,vs=[.int i,.int j,.int (-1)]/\(-(2 ^ 62)<=i/\i<2 ^ 62/\ -(2 ^ 62)<=j/\j<2 ^ 62)/\R (GG i (i-j).toNat) H1
def uK {a b c:Expr}{ta:TA}{p pos:Pos}(hg:Gl X "range") (hm:X.mg "range"=none) (ha:PA X [a,b,c] ta) (hs:bm [a,b,c] X.env=[(false,eval a X.env),(false,eval b X.env),(false,eval c X.env)]) (hs2:bm [b,c] X.env=[(false,eval b X.env),(false,eval c X.env)]):
  PI X tg (.Call (.Name "range" p) [a,b,c] [] pos) (FP ta):=by
 intro Y s U H R I h;refine Call_ (bN I hg hm boot_range (PyProof.Rows.callWith_type1 (ax (ha pos Y s U H _ I h) λus s1 ⟨vs,H1,I1,r1,q1⟩=>?_) (by rw[hs,hs2]) (by rw[hs2];rfl)));obtain⟨i,j,e,⟨q1,q2,q3,q4⟩,q⟩:=q1;subst e;cases r1 with
 |cons r rr=>
  cases rr with
  |cons r' rr=>
   cases rr with
   |cons r'' rr=>
    cases rr;obtain⟨t,rfl⟩:=r;obtain⟨t',rfl⟩:=r';obtain⟨t'',rfl⟩:=r'';refine call_range_3 (by decide) (ub I1 q1 q2 q3 q4 q) (.inl ?_);exact PyProof.noPylong_small nofun
end
end L2
namespace L2
open PySem PySem.Spec PySem.W PyProof.Rows
open PySem.AutoSeq1 (wpAny_loadPart')
noncomputable abbrev HR (l:Addr):Obj:={ cls:=.type "tuple_iterator",data:=.fields #[.ref l,.int 0 0] }
noncomputable abbrev Jm (j:Addr):Obj:={ cls:=.type "enumerate",data:=.fields #[.none,.bool false,.ref j,rawInt 0,.none,.none] }
def DY (l:Addr)(o:Obj)(xs:Array Value)(hc:o.cls=.type "tuple") (hd:∃ n,o.data=.seq xs n):
  Meets (Builtin.«enumerate.__new__» ⟨[.type "enumerate",.ref l],[]⟩) (λ_ R s=>s.heap.get? l=some o/\R (.ok (.ret (.ref (s.heap.push (HR l)).objs.size))) { s with heap:=(s.heap.push (HR l)).push (Jm s.heap.objs.size) }):=
 .of_wp λprog w A R s h=>by
  obtain⟨⟩:=s;obtain⟨hl,h⟩:=h;have hs:=sub_enumerate;have hL:Heap.IsTuple (Shared.heap ⟨_,_,_,_,_⟩) l xs:=⟨o,hl,hc,hd⟩
  wp_walk using wpAny_loadPart' hl
  refine wpAny_stack_any λst=>am ?_
  split
  .rename_i c _ _ _ _ _;cases(c ==Value.type "enumerate")
   .wp_walk using wpAny_loadPart' hl,wpAny_pyIter_tuple hL
    exact⟨_,rfl,h⟩
   .wp_walk using wpAny_loadPart' hl,wpAny_pyIter_tuple hL
    exact⟨_,rfl,h⟩
  .wp_walk using wpAny_loadPart' hl,wpAny_pyIter_tuple hL
   exact⟨_,rfl,h⟩
variable {xs:Array Value}{Q:KY}{i:Nat}
section
variable {prog:Program}{w:World}{A:Around}{E:K1}{s:Shared}
def AO {l:Addr}{Q:K1}(hL:s.heap.IsTuple l xs)
  (q:∀ h',IsEnum h' (s.heap.objs.size+1) s.heap.objs.size 0 .none->h'.IsTupleIter s.heap.objs.size l 0->(∀ b o,s.heap.get? b=some o->h'.get? b=some o)->Q (.ref (s.heap.objs.size+1)) { s with heap:=h' }):
  wpAny (model prog w) A (call (.type "enumerate") [.ref l]) Q E s:=by
 obtain⟨o,hl,hc,hd⟩:=hL;refine callType_new F.called_enumerate (by decide) (F.typeCall_enumerate_1 _) (F.newCall_enumerate_1 _) (λobj=>F.args_object_init_2 obj _) F.entry_enumerate_new (DY l o xs hc hd) ⟨hl,?_⟩;have hz:(s.heap.push (HR l)).objs.size=s.heap.objs.size+1:=Heap.size_push ..;show _/\_;rw[hz];have he:IsEnum ((s.heap.push (HR l)).push (Jm s.heap.objs.size)) (s.heap.objs.size+1) s.heap.objs.size 0 .none:=by
  have:=v0 (s.heap.push (HR l)) (o:=Jm s.heap.objs.size) rfl;rw[hz]at this;exact this
 exact⟨⟨_,he,rfl⟩,q _ he ⟨_,ul _ (v0 _ rfl),rfl,rfl⟩ λb o x=>ul _ (ul _ x)⟩
def Hv {e j l:Addr}{x y:Value}{Q:K1}(he:IsEnum s.heap e j i y)(g:s.heap.IsTupleIter j l i)(hl:s.heap.IsTuple l xs)(hx:xs[i]? =some x)(ne:e≠j)
  (q:∀ h',IsEnumOut h' e j ((i:Int)+1) x s.heap.objs.size->h'.IsTupleIter j l (i+1)->h'.get? s.heap.objs.size=some { cls:=.type "tuple",data:=.seq #[.int i s.toks,x] }->
   (∀ b o,b≠e->b≠j->s.heap.get? b=some o->h'.get? b=some o)->Q (.ref s.heap.objs.size) { s with heap:=h',toks:=s.toks+1 }):
  wpAny (model prog w) A (Builtin.«enumerate.__next__» ⟨[.ref e],[]⟩) (λfin s'=>∃ v,fin=.done (.ret v)/\Q v s') E s:=by
 obtain⟨hp,gs,d,tk,os⟩:=s;show wpAny _ _ (field (.ref e) 2 >>= _) _ _ _;refine ad (ap he rfl (x:=.ref j) rfl (ad (wm g hl hx λk1 g1 s1=>?_)))
 replace s1:Heap.SameBut j hp k1:=s1
 have e1:IsEnum k1 e j i y:=(s1.2 e ne).trans he;show wpAny _ _ (field (.ref e) 3 >>= _) _ _ ⟨k1,gs,d,tk,os⟩;refine ad (ap e1 rfl (x:=rawInt i) rfl ?_);show wpAny _ _ (field (.ref e) 4 >>= _) _ _ ⟨k1,gs,d,tk,os⟩;refine ad (ap e1 rfl (x:=.none) rfl ?_);show wpAny _ _ (mkInt i >>= _) _ _ ⟨k1,gs,d,tk,os⟩;refine ad (wpAny_mkInt ?_);show wpAny _ _ (setField (.ref e) 3 (rawInt ((i:Int)+1)) >>= _) _ _ ⟨k1,gs,d,tk+1,os⟩;refine ad (wpAny_setField_rec e1 (by simp) λk2 e2 s2=>?_)
 replace s2:Heap.SameBut e k1 k2:=s2
 replace e2:IsEnum k2 e j ((i:Int)+1) y:=e2
 show wpAny _ _ (setField (.ref e) 4 .none >>= _) _ _ ⟨k2,gs,d,tk+1,os⟩;refine ad (wpAny_setField_rec e2 (by simp) λk3 e3 s3=>?_)
 replace s3:Heap.SameBut e k2 k3:=s3
 replace e3:IsEnum k3 e j ((i:Int)+1) y:=e3
 show wpAny _ _ (newTuple [.int i tk,x] >>= _) _ _ ⟨k3,gs,d,tk+1,os⟩;refine ad (wpAny_newTuple ?_);have e4:IsEnum (k3.push { cls:=.type "tuple",data:=.seq #[.int i tk,x] }) e j ((i:Int)+1) y:=ul _ e3;generalize hk:k3.push { cls:=.type "tuple",data:=.seq #[.int i tk,x] }=k4 at e4;have z3:k3.objs.size=hp.objs.size:=by rw[s3.1,s2.1,s1.1]
 have lt:e<hp.objs.size:=ut he;have t4:k4.get? hp.objs.size=some { cls:=.type "tuple",data:=.seq #[.int i tk,x] }:=by rw[<-hk,<-z3];exact v0 _ rfl
 have b4:∀ b o,b≠e->b≠j->hp.get? b=some o->k4.get? b=some o:=λb o hb hj h=>by
  rw[<-hk];exact ul _ (s3.extBut b o hb (s2.extBut b o hb (s1.extBut b o hj h)))
 have g4:k4.IsTupleIter j l (i+1):=by
  obtain⟨o,ho,r⟩:=g1;exact⟨o,by rw[<-hk];exact ul _ (s3.extBut _ _ ne.symm (s2.extBut _ _ ne.symm ho)),r⟩
 show wpAny _ _ (Builtin.SmallTypes.ownedTupleIsFree (.ref e) >>= _) _ _ ⟨k4,gs,d,tk+1,os⟩;rw[z3];clear hk e3 s3 e2 s2 e1 s1 g1 z3 k3 k2 k1;refine ad ?_;unfold Builtin.SmallTypes.ownedTupleIsFree;refine ad (ap e4 rfl (x:=.none) rfl (am ?_));simp only[if_true];refine ad (wpAny_rule (ad (ap e4 rfl (x:=y) rfl (ad (wpAny_setField_rec e4 (by simp) λk5 e5 s5=>?_)))))
 replace s5:Heap.SameBut e k4 k5:=s5
 replace e5:IsEnum k5 e j ((i:Int)+1) x:=e5
 show wpAny _ _ (Builtin.SmallTypes.ownedTupleHandOut (.ref e) (.ref hp.objs.size) >>= _) _ _ ⟨k5,gs,d,tk+1,os⟩;refine ad ?_;unfold Builtin.SmallTypes.ownedTupleHandOut;refine ad (wpAny_setField_rec e5 (by simp) λk6 e6 s6=>?_)
 replace s6:Heap.SameBut e k5 k6:=s6
 replace e6:IsEnumOut k6 e j ((i:Int)+1) x hp.objs.size:=e6
 refine wpAny_setField_rec e6 (by simp) λk7 e7 s7=>?_
 replace s7:Heap.SameBut e k6 k7:=s7
 replace e7:IsEnumOut k7 e j ((i:Int)+1) x hp.objs.size:=e7
 have ex:∀ b o,b≠e->k4.get? b=some o->k7.get? b=some o:=λb o hb h=>s7.extBut b o hb (s6.extBut b o hb (s5.extBut b o hb h))
 refine ad (wpAny_letGo (am ⟨_,rfl,q k7 e7 ?_ (ex _ _ (Nat.ne_of_gt lt) t4) λb o hb hj h=>ex b o hb (b4 b o hb hj h)⟩));obtain⟨o,ho,r⟩:=g4;exact⟨o,ex _ _ ne.symm ho,r⟩
def zc {e j l:Addr}{x y:Value}(he:IsEnum s.heap e j i y)(g:s.heap.IsTupleIter j l i)(hl:s.heap.IsTuple l xs)(hx:xs[i]? =some x)(ne:e≠j)
  (q:∀ h',IsEnumOut h' e j ((i:Int)+1) x s.heap.objs.size->h'.IsTupleIter j l (i+1)->h'.get? s.heap.objs.size=some { cls:=.type "tuple",data:=.seq #[.int i s.toks,x] }->
   (∀ b o,b≠e->b≠j->s.heap.get? b=some o->h'.get? b=some o)->Q (some (.ref s.heap.objs.size)) { s with heap:=h',toks:=s.toks+1 }):wpAny (model prog w) A (pyNext (.ref e)) Q E s:=by
 have hT:s.TypeIs (.ref e) "enumerate":=⟨_,he,rfl⟩;unfold pyNext;exact ad (wpAny_attempt (wpAny_callSpecial?_slot (name:=Str.ofString "__next__") hT F.slot_enumerate_next (wpAny_call_entry F.slot_enumerate_next hT F.entry_enumerate_next (Hv he g hl hx ne λh' a b c k=>am (q h' a b c k)) (F.args_enumerate_next_1 _))))
def Dk {e j l:Addr}{y:Value}(hh:A.handled=none)(he:IsEnum s.heap e j i y)(g:s.heap.IsTupleIter j l i)(hl:s.heap.IsTuple l xs)(hx:xs[i]? =none)
  (q:∀ h',Heap.ExtBut j s.heap h'->Q none { s with heap:=h' }):wpAny (model prog w) A (pyNext (.ref e)) Q E s:=by
 have hT:s.TypeIs (.ref e) "enumerate":=⟨_,he,rfl⟩;unfold pyNext;refine ad (wpAny_attempt (wpAny_callSpecial?_slot (name:=Str.ofString "__next__") hT F.slot_enumerate_next (wpAny_call_entry F.slot_enumerate_next hT F.entry_enumerate_next ?_ (F.args_enumerate_next_1 _))));show wpAny _ _ (field (.ref e) 2 >>= _) _ _ _;refine ad (ap he rfl (x:=.ref j) rfl (ad (tQ hh g hl hx λh' x he' hx'=>?_)));obtain⟨o,ho,hc⟩:=hx';exact ad (wpAny_isInstance (T:="StopIteration") (b:=true) ⟨o,ho,hc⟩ isSubtype_stop (am (q _ he')))
end
abbrev HH (K:W.Frag)(l:Addr):It:=
 ⟨λi H=>∃ xs x,aX K H l xs/\xs[i]? =some x,λi H x H'=>∃ T y,H T=none/\x=.ref T/\H'=upd H T (.tup [.int i,y])/\∀ xs,aX K H l xs->xs[i]? =some y,λi H=>∃ xs,aX K H l xs/\xs.length<=i⟩
variable {elts:List Expr}
def qU {P:Program}{w:World}{K:W.Frag}{k:Nat}{pos:Pos}(l e it:Addr)(hei:e≠it):
  Turn P w K Calm (.Tuple elts k pos) (HH K l) [e,it] e (λi h=>(∃ old,IsEnum h e it ((i:Nat):Int) old)/\h.IsTupleIter it l i) where
 mem:=by simp
 obj:=λi h st b hb=>by
  obtain⟨⟨old,he⟩,hit⟩:=st;rcases lw.mp hb with rfl|hb
  .exact⟨_,he,λv z=>by
    have z':Data.fields _=Data.cell v:=z;cases z'⟩
  .have e':b=it:=by simpa using hb
   subst e';obtain⟨o,e,c,d⟩:=hit;exact⟨o,e,λv z=>by rw[d]at z;cases z⟩
 keep:=λi h h' st k=>by
  obtain⟨⟨old,he⟩,hit⟩:=st;exact⟨⟨old,k e (by simp) _ he⟩,hit.at λo q=>k it (by simp) o q⟩
 item:=by
  intro X hP hw hK hc i Y s U H E I hf st hg;subst hP hw hK;obtain⟨xs,x,hq,hx⟩:=hg;obtain⟨⟨old,he⟩,hit⟩:=st;obtain⟨its,rv,p,hz⟩:=I.tuple hq;obtain⟨u,hu,ru⟩:=rv.get hx;have heN:H e=none:=(hf e (by simp)).1;have hes:e≠s.heap.objs.size:=pi (ut he);obtain⟨oi,hoi,_⟩:=id hit;have his:it≠s.heap.objs.size:=pi (ut hoi);refine zc he hit (show s.heap.IsTuple l its.toArray from p) (x:=u) (by simpa using hu) hei λh1 heo hit1 ht1 hk1=>?_
  have I1:Inv X Y U (upd H s.heap.objs.size (.tup [.int i,x])) { s with heap:=h1,toks:=s.toks+1 }:=
   I.jL (ch:=[e,it]) (λb o hb q=>hk1 b o (λz=>hb (by simp[z])) (λz=>hb (by simp[z])) q) hf (re _)
    ⟨fits (pc rfl),[.int i s.toks,u],.cons ⟨_,rfl⟩ (.cons ru .nil),⟨_,ht1,rfl,_,rfl⟩⟩
  refine⟨_,rfl,wpAny_letOwnedTupleGo_enum heo λh2 he2 hs2=>?_⟩;obtain⟨f0,f1,f2,f3,f4,f5⟩:=hf e (by simp);have I2:=I1.turned (h':=h2) (t':=s.toks+1) (it:=e) (λb o hb q=>(hs2.2 b hb).trans q) (by rw[af hes];exact heN) f1 f3 f4 f5;refine⟨.ref s.heap.objs.size,_,I2,rfl,⟨_,x,I.hok.fresh (re _),rfl,rfl,λys hy=>by rw[I.cB hy hq];exact hx⟩,⟨⟨_,by simpa using he2⟩,hit1.at λo q=>(hs2.2 it hei.symm).trans q⟩,λb hb=>?_⟩;have hb':b≠s.heap.objs.size:=by
   rcases lw.mp hb with rfl|hb
   .exact hes
   .have e':b=it:=by simpa using hb
    subst e';exact his
  rw[af hb'];exact(hf b hb).1
 done:=by
  intro X hP hw hK hc i Y s U H E I hf st hg;subst hP hw hK;obtain⟨xs,hq,hx⟩:=hg;obtain⟨⟨old,he⟩,hit⟩:=st;obtain⟨its,rv,p,hz⟩:=I.tuple hq;obtain⟨f0,f1,f2,f3,f4,f5⟩:=hf it (by simp);have hl:=rv.length;exact Dk (I.ok.hd hc) he hit (show s.heap.IsTuple l its.toArray from p) (by simp;omega) λh' eb=>⟨rfl,I.turned (t':=s.toks) (λb o hb q=>eb b o hb q) f0 f1 f3 f4 f5⟩
 self:=λ_ _ _ _ _ st h=>by
  obtain⟨⟨old,he⟩,hit⟩:=st;exact wpAny_pyIter_enum he h
abbrev GK (K:W.Frag)(ta:TA):TI:=λU H R=>ta U H λvs H1=>∃ l,vs=[.ref l]/\(∃ xs,aX K H1 l xs)/\R (HH K l) H1
def AS {X:Cx}{k:Nat}{a:Expr}{ta:TA}{p pos pos':Pos}(hg:Gl X "enumerate") (hm:X.mg "enumerate"=none) (ha:PA X [a] ta) (hs:bm [a] X.env=[(false,eval a X.env)]):
  PI X (.Tuple elts k pos') (.Call (.Name "enumerate" p) [a] [] pos) (GK X.K ta):=by
 intro Y s U H R I h;refine Call_ (bN I hg hm f6 (PyProof.Rows.callWith_type1 (ax (ha pos Y s U H _ I h) λus s1 ⟨vs,H1,I1,r1,q1⟩=>?_) hs rfl));obtain⟨l,e,⟨xs,hl⟩,q⟩:=q1;subst e;cases r1 with
 |cons r rr=>
  cases rr;cases r;obtain⟨its,rv,p,hz⟩:=I1.tuple hl;refine AO (show s1.heap.IsTuple l its.toArray from p) λh' he hit hk=>wpAny_pyIter_enum he ?_
  refine⟨s1.heap.objs.size+1,[s1.heap.objs.size+1,s1.heap.objs.size],_,_,H1,rfl,I1.kept (t':=s1.toks) hk,qU l _ _ (Nat.succ_ne_self _),⟨⟨_,he⟩,hit⟩,λb hb=>?_,q⟩;have hb':s1.heap.objs.size<=b:=by
   rcases lw.mp hb with rfl|hb
   .exact Nat.le_succ _
   .have e':b=s1.heap.objs.size:=by simpa using hb
    exact Nat.le_of_eq e'.symm
  exact I1.lL hb' (I1.hok.fresh hb')
section
variable {X:Cx}{Y:K2}{U:St}{H:Hp}{s:Shared}
end
section
variable {prog:Program}{w:World}{A:Around}{E:K1}{s:Shared}
variable {z TI TO i1 i2 i3 l1 l2 l3:Addr}{k1 k2 k3:Nat}{tp1 tp2 tp3:Bool}{xs ys zs:Array Value}{x y v a b c f1:Value}
end
variable {X:Cx}{e es:Expr}{te:TE}{ts:TO}{p2 pos:Pos}
def rW:∀ {xs:List V}{us:List Value},xs.length=us.length->(∀ (j:Nat) (x:V) (u:Value),xs[j]? =some x->us[j]? =some u->RelV x u)->Vals xs us
 | [],[],_,_=>.nil
 |x::xs,u::us,e,h=>.cons (h 0 x u rfl rfl) (rW (Nat.succ.inj e) λj a b e1 e2=>h (j+1) a b e1 e2)
def sV:∀ {kvs:List (Key×V)}{vs:List (Key×Value)},KV kvs vs->kvs.map (·.1)=vs.map (·.1)
 |_,_,.nil=>rfl
 |_,_,.cons r rs=>by rw[map_cons,map_cons,r.1,sV rs]
def qu {Y:K2}{U:St}{H:Hp}{s:Shared}{Q:VK}{d:Addr}{kvs:List (Key×V)}(hc:X.calm=true)(I:Inv X Y U H s)(e:Rd H d (.dK kvs))(q:∀ p,H p=none->Q (.ref p) (upd H p (.lst (kvs.map (λkv=>kV kv.1))))):
  wpAny (model X.prog X.w) X.A (call (.type "list") [.ref d]) (EP X Y U Q) X.xe s:=by
 obtain⟨hz,hd,vs,rel,dd⟩:=ij I.hok e;obtain⟨o,es,ep,ho,hx,he,hk,hp,hn⟩:=dd;have hA:s.heap.DictAt (ao X.prog X.w) d vs ep:=⟨o,es,ho,hx,he,hk,hp,hn⟩;have hl:vs.length<=bn:=by rw[<-rel.length];exact hz
 refine kdl_call (kdl_dict hd) (I.ok.hd hc) hA hl λh' tk acc c' hk' hD hi=>?_
 have r:Vals (kvs.map (λkv=>kV kv.1)) acc.toList:=rW ((ci ..).trans (rel.length.trans (hi.1.symm.trans Array.length_toList.symm))) λj x u e1 e2=>by
  rw[io]at e1;obtain⟨⟨k,y⟩,ek,rfl⟩:=nb.mp e1;obtain⟨k',y',ek',hs⟩:=hi.2 j u (by rw[<-Array.getElem?_toList];exact e2);have ekk:k=k':=by
   have h2:(kvs.map (·.1))[j]? =(vs.map (·.1))[j]? :=by rw[sV rel]
   rw[io,io,ek,ek']at h2;exact Option.some.inj h2
  subst ekk;rcases aA hs with⟨i,t,rfl,rfl⟩|⟨z,t,rfl,rfl⟩
  .exact⟨t,rfl⟩
  .exact⟨t,rfl⟩
 exact⟨.ref _,_,I.laid (t':=tk) hk' (re _) (show au X.prog X.w _ h' _ (.lst (kvs.map (λkv=>kV kv.1))) from⟨by rw[ci];exact hz,acc.toList,c',r,by rw[Array.toArray_toList];exact hD⟩),rfl,q _ (I.hok.fresh (re _))⟩
end L2
namespace L2
open PySem PySem.Spec PyProof.Rows
abbrev Fz (z:Str):It:=⟨λi _=>i<z.cps.size,λi H x H'=>H'=H/\∃ c,z.cps[i]? =some c/\x=.str ⟨#[c]⟩,λi _=>z.cps.size<=i⟩
def v8 {P:Program}{w:World}{K:W.Frag}{tg:Expr}(it:Addr)(z:Str)(t:Tok):Turn P w K Calm tg (Fz z) [it] it (λi h=>h.IsStrIter it (strIterType z) z t i) where
 mem:=by simp
 obj:=λi h st b hb=>by
  have e:b=it:=by simpa using hb
  subst e;obtain⟨o,e,c,d⟩:=st;exact⟨o,e,λv z=>by rw[d]at z;cases z⟩
 keep:=λi h h' st k=>let⟨o,ho,r⟩:=st;⟨o,k it (by simp) o ho,r⟩
 item:=by
  intro X hP hw hK hc i Y s U H E I hf st hg;subst hP hw hK;obtain⟨f0,f1,f2,f3,f4,f5⟩:=hf it (by simp);have go:∀ T,(T="str_ascii_iterator"\/T="str_iterator")->strIterType z=T->wpAny (model X.prog X.w) X.A (pyNext (.ref it)) (λr s1=>∃ u,r=some u/\
   wpAny (model X.prog X.w) X.A (letOwnedTupleGo tg (.ref it) u) (λ_ s2=>∃ x H',Inv X Y U H' s2/\RelV x u/\(Fz z).yld i H x H'/\s2.heap.IsStrIter it (strIterType z) z t (i+1)/\∀ b ∈ [it],H' b=none) E s1) E s:=by
   intro T hT eT;rw[eT]at st⊢;have fin:∀ v h' tk,SignAt z i v->h'.IsStrIter it T z t (i+1)->(∀ b o,b ∉ [it]->s.heap.get? b=some o->h'.get? b=some o)->∃ u,some v=some u/\
    wpAny (model X.prog X.w) X.A (letOwnedTupleGo tg (.ref it) u) (λ_ s2=>∃ x H',Inv X Y U H' s2/\RelV x u/\(Fz z).yld i H x H'/\s2.heap.IsStrIter it T z t (i+1)/\∀ b ∈ [it],H' b=none) E { s with heap:=h',toks:=tk }:=by
    intro v h' tk hv st' kk;obtain⟨c,u,hc',rfl⟩:=hv;have I1:Inv X Y U H { s with heap:=h',toks:=tk }:=I.turned (λb o hb e=>kk b o (by simpa using hb) e) f0 f1 f3 f4 f5;obtain⟨o,e,cc,d⟩:=id st';exact⟨_,rfl,kM (s:={ s with heap:=h',toks:=tk }) e cc d (by rcases hT with rfl|rfl<;>decide) ⟨.str ⟨#[c]⟩,H,I1,⟨u,rfl⟩,⟨rfl,c,hc',rfl⟩,st',λb hb=>(hf b hb).1⟩⟩
   rcases hT with rfl|rfl
   .exact(Walks.strAscii (prog:=X.prog) (w:=X.w) (I.ok.hd hc) it z t).item i s _ _ hg st fin
   .exact(Walks.strWide (prog:=X.prog) (w:=X.w) (I.ok.hd hc) it z t).item i s _ _ hg st fin
  have hz:strIterType z="str_ascii_iterator"\/strIterType z="str_iterator":=by unfold strIterType;split<;>simp
  exact go _ hz rfl
 done:=by
  intro X hP hw hK hc i Y s U H E I hf st hg;subst hP hw hK;obtain⟨f0,f1,f2,f3,f4,f5⟩:=hf it (by simp);have hx:z.cps[i]? =none:=Array.getElem?_eq_none hg;have fin:∀ h',Heap.ExtBut it s.heap h'->(none:Option Value)=none/\Inv X Y U H { s with heap:=h' }:=λh' eb=>⟨rfl,I.turned (t':=s.toks) (λb o hb e=>eb b o hb e) f0 f1 f3 f4 f5⟩
  unfold strIterType at st
  split at st
  .exact wpAny_pyNext_ascii_end (I.ok.hd hc) st hx fin
  .exact wpAny_pyNext_wide_end (I.ok.hd hc) st hx fin
 self:=λ_ _ _ _ _ st h=>by
  unfold strIterType at st
  split at st
  .exact wpAny_pyIter_striter_ascii st h
  .exact wpAny_pyIter_striter_wide st h
def vF {X:Cx}{tg:Expr}{Y:K2}{U:L2.St}{H1:Hp}{s1:Shared}{R:It->Hp->Prop}{z:Str}{v:Value}(I1:Inv X Y U H1 s1)(r:RelV (.str z) v)(q:R (Fz z) H1):
  wpAny (model X.prog X.w) X.A (pyIter v) (G9 X Y U tg R) X.xe s1:=by
 obtain⟨t,rfl⟩:=r;refine wpAny_pyIter_strU ?_;refine⟨s1.heap.objs.size,[s1.heap.objs.size],_,_,H1,rfl,I1.kept (t':=s1.toks) λb o e=>ul _ e,v8 _ z t,⟨_,v0 _ rfl,rfl,rfl⟩,λb hb=>?_,q⟩;have e:b=s1.heap.objs.size:=by simpa using hb
 subst e;exact I1.lL (re _) (I1.hok.fresh (re _))
def Inv.iJ {X:Cx}{Y:K2}{U:L2.St}{H:Hp}{s:Shared}{d:Addr}{kvs:List (Key×V)}(I:Inv X Y U H s)(e:H d=some (.dK kvs)):∃ o,Inv X Y U (upd H d (.iJ o (.dK kvs))) s:=by
 obtain⟨_,_,vs,rel,o,es,ep,ho,r⟩:=id (show au X.prog X.w H s.heap d (.dK kvs) from I.hok d _ e);have ne:∀ b u,H b=some u->u≠.dK kvs->b≠d:=λb u hb hn z=>by subst z;rw[e]at hb;cases hb;exact hn rfl
 refine⟨o,I.step (h':=s.heap) (t':=s.toks) (g':=s.gens) (d':=s.drawn) (ch:=[]) (λ_ z=>nomatch z) (λb o _ _ _ e _=>e) (λb o _ _ _ e _=>⟨o.slots,e⟩) (λb o _ _ n=>by rw[af (λz=>by subst z;rw[e]at n;cases n)];exact n) (λb o _ e=>⟨o,e⟩)
  (λb xs h=>by rw[af (ne b _ h (λz=>by cases z))];exact h) (λb o u h=>by rw[af (ne b _ h (λz=>by subst z;exact False.elim u))];exact h) (λb ps h=>⟨#[],by rw[af (ne b _ h (λz=>by cases z)),h];simp⟩) (λm hm=>hm) (λb u hb=>?_) I.bare⟩
 have du:∀ b u,H b=some u->au X.prog X.w (upd H d (.iJ o (.dK kvs))) s.heap b u:=λb u hb=>(I.hok b u hb).du (λ_ _ _ e=>e) (λc hc=>by rw[af (ne c _ hc (λz=>by cases z))];exact hc) (λc xs hc=>by rw[af (ne c _ hc (λz=>by cases z))];exact hc)
 by_cases z:b=d
 .subst z;rw[av]at hb;cases hb;exact⟨ho,du _ _ e⟩
 .rw[af z]at hb;exact du b u hb
section
variable {X:Cx}
end
end L2
namespace L2
open PySem PySem.Spec PySem.W PyProof.Rows SeqAt
open AutoSeq1 (wpAny_loadPart')
open MeetsSeq MeetsSeq2 MeetsSeq3 SeqRoads2
section
variable {prog:Program}{w:World}
end
end L2
namespace L2
open PySem PySem.Spec PySem.W PyProof.Rows PySem.Calls PyProof.V
abbrev JU (D:List (Str×Str)):List (Str×KTD.Dat):=(D.map λp=>(p.1,PyData.str p.2)).map λp=>(p.1,KTD.Dat.flat p.2)
section
variable {X:Cx}{Y:K2}{U:St}{H:Hp}{s:Shared}{a:Addr}{D:List (Str×Str)}{k w:Str}{t:Tok}{A:Around}{E:K1}
def rV (k:Str):∀ D:List (Str×Str),KTD.datumAt k (JU D)=(D.lookup k).map λz=>KTD.Dat.flat (.str z)
 | []=>rfl
 |(x,y)::D=>by
  have ih:=rV k D;show(if decide (k=x)=true then some (KTD.Dat.flat (.str y)) else KTD.datumAt k (JU D))=_;rw[lookup_cons]
  by_cases h:k=x
  .subst h;simp
  .rw[show(k ==x)=false by simpa using h,if_neg (by simpa using h),ih]
end
end L2
namespace L2
open PySem PySem.Spec PySem.W PyProof.Rows
section
variable {prog:Program}{w:World}{A:Around}{E:K1}{s:Shared}
def kj:entryFor table "proto.unchain"=some Builtin.«proto.unchain»:=entryFor_of_fast (by kernel_rfl)
def kA:plainId "proto.unchain"=true:=by decide+kernel
def kc {α:Type}{e a:Addr}{oe oa:Obj}{vs ws:Array Value}{Q:α->Shared->Prop}(hA:A.handled=some (.ref e))(he:s.heap.get? e=some oe)(hd:oe.data=.fields vs)(h2:vs[2]? =some .none)
  (ha:s.heap.get? a=some oa) (hda:oa.data=.fields ws) (hw:2<ws.size) (ne:e≠a) (h:E (.ref a) { s with heap:=s.heap.update a (Obj.mapFields (·.setIfInBounds 2 (.ref e))) }):wpAny (model prog w) A (raiseNew (.ref a):Sem α) Q E s:=by
 unfold raiseNew;refine ad (wpAny_handled ?_);rw[hA];dsimp only;have n:(Value.ref e != Value.ref a)=true:=by simp[ne]
 rw[if_pos n];refine ad (bd (wpAny_runValue (codeAny_builtin kj ?_)));rw[Around.under_plainId kA _];unfold Builtin.«proto.unchain»;dsimp only;refine ad (ap he hd h2 ?_);rw[if_pos (by decide)];refine am ?_;unfold updateField;refine ad (ad (wpAny_load ha ?_));rw[hda];dsimp only;rw[if_pos hw];exact wpAny_update ha (wpAny_throw h)
def rO {it t e:Addr}{i:Nat}{items vs:Array Value}{oe:Obj}{Q:KY}(hA:A.handled=some (.ref e))(he:s.heap.get? e=some oe)(hde:oe.data=.fields vs)(h2:vs[2]? =some .none)(hne:e≠it)
  (hit:s.heap.IsTupleIter it t i) (ht:s.heap.IsTuple t items) (hx:items[i]? =none)
  (hQ:∀ h',Heap.ExtBut it s.heap h'->Q none { s with heap:=h' }):wpAny (model prog w) A (pyNext (.ref it)) Q E s:=by
 obtain⟨o,ho,hc,hd⟩:=id hit;obtain⟨ol,hol,_,nl,hdl⟩:=ht;unfold pyNext;refine ad (wpAny_attempt (wpAny_callSpecial?_slot (name:=Str.ofString "__next__") hit.typeIs F.slot_tuple_iterator_next
  (wpAny_call_entry F.slot_tuple_iterator_next hit.typeIs F.entry_tuple_iterator_next ?_ (F.args_tuple_iterator_next_1 _))))
 show wpAny _ _ (field (.ref it) 0 >>= _) _ _ s;refine ad (ap ho hd (x:=.ref t) rfl ?_);show wpAny _ _ (if(Value.ref t ==Value.none)=true then _ else _) _ _ s;rw[if_neg (show ¬ ((Value.ref t ==Value.none)=true) from Bool.false_ne_true)];show wpAny _ _ (field (.ref it) 1 >>= _) _ _ s;refine ad (ap ho hd (x:=.int i 0) rfl ?_);show wpAny _ _ (seqItems? (.ref t) >>= _) _ _ s;refine ad (wpAny_seqItems hol hdl ?_);simp only[sn,hx];refine ad (wpAny_rule (ad (wpAny_setField ho hd (by simp) ?_)));show wpAny _ _ (newExc (.type "StopIteration") [] >>= _) _ _ _;refine ad ?_;simp only[newExc,newTuple];refine ad (wpAny_newObj_type ?_ (by size_fits));refine ad (m:=firstArgMember _ _) (wpAny_of_eq (a:=Value.none) (by first|rfl|(simp only[firstArgMember];rfl)) ?_);refine wpAny_newObj_type ?_ (by size_fits);have hlt:e<(s.heap.update it (Obj.mapFields (·.setIfInBounds 0 Value.none))).objs.size:=by rw[Heap.size_after_update];exact ut he
 have he1:=(Heap.get?_update_other s.heap (Obj.mapFields (·.setIfInBounds 0 Value.none)) (Ne.symm hne)).trans he;refine kc (A:=A.in1) hA (ul _ (ul _ he1)) hde h2 (v0 _ rfl) rfl (by rw[Array.size_append];exact nw (show 2<6 by decide) (Nat.le_add_right ..)) (pi (nw hlt (by rw[Heap.size_push];exact Nat.le_succ _))) ?_;have big:∀ b ob,s.heap.get? b=some ob->b<(s.heap.update it (Obj.mapFields (·.setIfInBounds 0 Value.none))).objs.size:=λb ob q=>by rw[Heap.size_after_update];exact ut q
 refine ad (wpAny_isInstance (T:="StopIteration") (b:=true) ⟨_,Heap.get?_update_self _ (v0 _ rfl) (Obj.isFreed_of_fields (Obj.data_mapFields rfl _)),(Obj.cls_mapFields ..).trans rfl⟩ isSubtype_stop ?_);refine am (hQ _ λb ob hb q=>?_);refine(Heap.get?_update_other _ _ (Ne.symm (pi (nw (big b ob q) (by rw[Heap.size_push];exact Nat.le_succ _))))).trans (ul _ (ul _ ?_));exact(Heap.get?_update_other s.heap _ (Ne.symm hb)).trans q
end
def n8 {P:Program}{w:World}{K:W.Frag}{tg:Expr}(a it:Addr):Turn P w K eY tg (vo K a) [it] it (λi h=>h.IsTupleIter it a i) where
 mem:=(cf (P:=P) (w:=w) (K:=K) (tg:=tg) a it).mem
 obj:=(cf (P:=P) (w:=w) (K:=K) (tg:=tg) a it).obj
 keep:=(cf (P:=P) (w:=w) (K:=K) (tg:=tg) a it).keep
 item:=by
  intro X hP hw hK hc i Y s U H E I hf st hg;subst hP hw hK;obtain⟨xs,x,hq,hx⟩:=hg;obtain⟨its,rv,p,hz⟩:=I.tuple hq;obtain⟨u,hu,ru⟩:=rv.get hx;obtain⟨f0,f1,f2,f3,f4,f5⟩:=hf it (by simp);refine wpAny_pyNext_tuple_item st (show s.heap.IsTuple a its.toArray from p) (x:=u) (by simpa using hu) λh' st' sb=>?_
  have I1:Inv X Y U H { s with heap:=h' }:=I.turned (t':=s.toks) (λb o hb e=>(sb.2 b hb).trans e) f0 f1 f3 f4 f5;obtain⟨o,e,c,d⟩:=id st';exact⟨u,rfl,kM (s:={ s with heap:=h' }) e c d (by decide) ⟨x,H,I1,ru,⟨rfl,λys hy=>by rw[I.cB hy hq];exact hx⟩,st',λb hb=>(hf b hb).1⟩⟩
 done:=by
  intro X hP hw hK hc i Y s U H E I hf st hg;subst hP hw hK;obtain⟨xs,hq,hx⟩:=hg;obtain⟨its,rv,p,hz⟩:=I.tuple hq;obtain⟨f0,f1,f2,f3,f4,f5⟩:=hf it (by simp);obtain⟨e,C,dx,fs,hA,he⟩:=hc;have he':=I.base.frzs e (.exc C dx fs false) rfl he;obtain⟨⟨vs,ho,hsz,_,h2⟩,_⟩:=id (I.hok e _ he');have hl:=rv.length;exact rO hA ho rfl h2 (λz=>by rw[z,f0]at he';cases he') st (show s.heap.IsTuple a its.toArray from p) (by simp;omega) λh' eb=>⟨rfl,I.turned (t':=s.toks) (λb o hb e=>eb b o hb e) f0 f1 f3 f4 f5⟩
 self:=(cf (P:=P) (w:=w) (K:=K) (tg:=tg) a it).self
def eY.now {X:Cx}{Y:K2}{U:St}{H:Hp}{s:Shared}(h:eY X)(I:Inv X Y U H s):∃ e C dx fs,X.A.handled=some (.ref e)/\H e=some (.exc C dx fs false):=by
 obtain⟨e,C,dx,fs,hA,he⟩:=h;exact⟨e,C,dx,fs,hA,I.base.frzs e (.exc C dx fs false) rfl he⟩
end L2
namespace L2
open PySem PySem.Spec PyProof.Rows
inductive cg (K:W.Frag) (H:Hp):Nat->V->V->Bool->Prop where
 |flat {n:Nat}{x y:V}(fx:aG x=true) (fy:aG y=true):cg K H n x y (lX x y)
 |same {n:Nat}(a:Addr):cg K H (n+1) (.ref a) (.ref a) true
 |ll {n:Nat}{a b:Addr}{xs ys:List V}{e:Nat->Bool}(ha:ba K H a xs) (hb:ba K H b ys) (hl:xs.length=ys.length) (h:∀ j x y,xs[j]? =some x->ys[j]? =some y->cg K H (n+1) x y (e j)):cg K H (n+2) (.ref a) (.ref b) ((List.range xs.length).all e)
 |tt {n:Nat}{a b:Addr}{xs ys:List V}{e:Nat->Bool}(ha:aX K H a xs) (hb:aX K H b ys) (h:∀ j x y,xs[j]? =some x->ys[j]? =some y->cg K H (n+1) x y (e j)):cg K H (n+2) (.ref a) (.ref b) ((List.range (min xs.length ys.length)).all e&&xs.length ==ys.length)
variable {A:Around}
section
variable {X:Cx}{Y:K2}{s:Shared}{U:St}{H:Hp}
def xY {y x:V}{u v:Value}(ry:RelV y u)(rx:RelV x v)(fy:aG y=true)(fx:aG x=true):SeqAt.RcAt A s u v (lX y x):=by
 cases y<;>first|cases fy|skip
 all_goals (cases x<;>first|cases fx|skip)
 all_goals (first|(obtain⟨t,rfl⟩:=ry)|cases ry)
 all_goals (first|(obtain⟨t',rfl⟩:=rx)|cases rx)
 .exact SeqAt.RcAt.none_none
 .exact SeqAt.RcAt.none_bool _
 .exact SeqAt.RcAt.none_int _ _
 .exact SeqAt.RcAt.none_str _ _
 .exact SeqAt.RcAt.bool_none _
 .exact SeqAt.RcAt.bool_bool _ _
 .exact SeqAt.RcAt.bool_int _ _ _
 .exact SeqAt.RcAt.bool_str _ _ _
 .exact SeqAt.RcAt.int_none _ _
 .exact SeqAt.RcAt.int_bool _ _ _
 .exact SeqAt.RcAt.int_int _ _ _ _
 .exact SeqAt.RcAt.int_str _ _ _ _
 .exact SeqAt.RcAt.str_none _ _
 .exact SeqAt.RcAt.str_bool _ _ _
 .exact SeqAt.RcAt.str_int _ _ _ _
 .exact SeqAt.RcAt.str_str _ _ _ _
def pI {y x:V}{u v:Value}(ry:RelV y u)(rx:RelV x v)(fy:aG y=true)(fx:aG x=true):SeqAt.RcNeAt A s u v (!lX y x):=by
 cases y<;>first|cases fy|skip
 all_goals (cases x<;>first|cases fx|skip)
 all_goals (first|(obtain⟨t,rfl⟩:=ry)|cases ry)
 all_goals (first|(obtain⟨t',rfl⟩:=rx)|cases rx)
 .exact SeqAt.RcNeAt.none_none
 .exact SeqAt.RcNeAt.none_bool _
 .exact SeqAt.RcNeAt.none_int _ _
 .exact SeqAt.RcNeAt.none_str _ _
 .exact SeqAt.RcNeAt.bool_none _
 .exact SeqAt.RcNeAt.bool_bool _ _
 .exact SeqAt.RcNeAt.bool_int _ _ _
 .exact SeqAt.RcNeAt.bool_str _ _ _
 .exact SeqAt.RcNeAt.int_none _ _
 .exact SeqAt.RcNeAt.int_bool _ _ _
 .exact SeqAt.RcNeAt.int_int _ _ _ _
 .exact SeqAt.RcNeAt.int_str _ _ _ _
 .exact SeqAt.RcNeAt.str_none _ _
 .exact SeqAt.RcNeAt.str_bool _ _ _
 .exact SeqAt.RcNeAt.str_int _ _ _ _
 .exact SeqAt.RcNeAt.str_str _ _ _ _
def eqv_refl (I:Inv X Y U H s):∀ {n:Nat}{x y:V}{b:Bool},cg X.K H n x y b->x=y->b=true:=by
 intro n x y b h
 induction h with
 | @flat n x y fx fy=>
  rintro rfl;cases x<;>first|(exact absurd fx Bool.false_ne_true)|simp[lX]
 |same a=>intro _;rfl
 | @ll n a b xs ys e ha hb hl h ih=>
  intro z;cases z;have:=I.jU ha hb;subst this;rw[all_eq_true];intro j hj;have hj':j<xs.length:=mem_range.mp hj;exact ih j _ _ (li hj') (li hj') rfl
 | @tt n a b xs ys e ha hb h ih=>
  intro z;cases z;have:=I.cB ha hb;subst this;rw[beq_self_eq_true,Bool.and_true,Nat.min_self,all_eq_true];intro j hj;have hj':j<xs.length:=mem_range.mp hj;exact ih j _ _ (li hj') (li hj') rfl
def oy (I:Inv X Y U H s):∀ {n:Nat}{x y:V}{b:Bool},cg X.K H n x y b->∀ {A:Around}{u v:Value},A.units+n<cLine->RelV x u->RelV y v->
  (SeqAt.EqAt A s u v b)/\(x=y\/SeqAt.RcAt A s u v b/\SeqAt.RcNeAt A s u v (!b)):=by
 intro n x y b h
 induction h with
 |flat fx fy=>intro A u v _ rx ry;exact⟨xE rx ry fx fy,.inr ⟨xY rx ry fx fy,pI rx ry fx fy⟩⟩
 |same a=>intro A u v _ rx ry;cases rx;cases ry;exact⟨SeqAt.EqAt.same _,.inl rfl⟩
 | @ll n a b xs ys e ha hb hl h ih=>
  intro A u v hu rx ry;have hall:=cg.ll ha hb hl h;cases rx;cases ry
  by_cases hab:a=b
  .subst hab;have z:=eqv_refl I hall rfl;rw[z];exact⟨SeqAt.EqAt.same _,.inl rfl⟩
  obtain⟨ia,ra,pa,_⟩:=I.list ha;obtain⟨ib,rb,pb,_⟩:=I.list hb;have e1:ia.toArray.size=xs.length:=by rw[ii,ra.length]
  have e2:ib.toArray.size=ys.length:=by rw[ii,rb.length]
  have he:∀ j (h1:j<ia.toArray.size) (h2:j<ib.toArray.size),SeqAt.EqAt A.in1 s ia.toArray[j] ib.toArray[j] (e j):=λj h1 h2=>by
   obtain⟨x1,f1,r1⟩:=i9 ra h1;obtain⟨y1,f2,r2⟩:=i9 rb h2;exact(ih j x1 y1 f1 f2 (by show A.units+1+(n+1)<cLine;omega) r1 r2).1
  have rc:=SeqAt.RcAt.lists (A:=A) pa.isList pb.isList (by rw[e1,e2,hl]) nofun he;have rn:=SeqAt.RcNeAt.lists (A:=A) pa.isList pb.isList (by rw[e1,e2,hl]) nofun he;rw[e1]at rc rn;exact⟨SeqAt.EqAt.of_refs hab rc,.inr ⟨rc,rn⟩⟩
 | @tt n a b xs ys e ha hb h ih=>
  intro A u v hu rx ry;have hall:=cg.tt ha hb h;cases rx;cases ry
  by_cases hab:a=b
  .subst hab;have z:=eqv_refl I hall rfl;rw[z];exact⟨SeqAt.EqAt.same _,.inl rfl⟩
  obtain⟨ia,ra,pa,_⟩:=I.tuple ha;obtain⟨ib,rb,pb,_⟩:=I.tuple hb;have e1:ia.toArray.size=xs.length:=by rw[ii,ra.length]
  have e2:ib.toArray.size=ys.length:=by rw[ii,rb.length]
  have he:∀ j (h1:j<ia.toArray.size) (h2:j<ib.toArray.size),SeqAt.EqAt A.in1 s ia.toArray[j] ib.toArray[j] (e j):=λj h1 h2=>by
   obtain⟨x1,f1,r1⟩:=i9 ra h1;obtain⟨y1,f2,r2⟩:=i9 rb h2;exact(ih j x1 y1 f1 f2 (by show A.units+1+(n+1)<cLine;omega) r1 r2).1
  have rc:=SeqAt.RcAt.tuples (A:=A) (show s.heap.IsTuple a ia.toArray from pa) (show s.heap.IsTuple b ib.toArray from pb) nofun he;have rn:=SeqAt.RcNeAt.tuples (A:=A) (show s.heap.IsTuple a ia.toArray from pa) (show s.heap.IsTuple b ib.toArray from pb) nofun he;rw[e1,e2]at rc rn;exact⟨SeqAt.EqAt.of_refs hab rc,.inr ⟨rc,rn⟩⟩
@[irreducible] noncomputable def dw (K:W.Frag) (neg:Bool):R2:=λx y H Q=>False\/∃ n b,cg K H n x y b/\n<=100/\(aG x=true\/x≠y\/(neg=false/\∃ a,x=.ref a/\w4 K H a)\/(neg=true/\∃ a,x=.ref a/\qo K H a))/\Q (.bl (if neg then !b else b)) H
def C0 (hu:X.A.units+200<cLine):cI X (compareOp .Eq) (dw X.K false):=by
 intro Y s U H x y v u Q I rx ry h;unfold dw at h;rcases h with z|⟨n,b,e,hn,hx,q⟩
 .exact z.elim
 rcases(oy I e (A:=X.A) nofun rx ry).2 with z|⟨z,_⟩
 .subst z;rcases hx with hx|hx
  .have z:=eqv_refl I e rfl;have r:=xY (s:=s) (A:=X.A) rx ry hx hx;have z2:=eqv_refl I (cg.flat (K:=X.K) (H:=H) (n:=0) hx hx) rfl;rw[z2]at r;rw[z]at q;exact PySem.EqBoolInt.of_rc r ⟨.bl true,H,I,rfl,q⟩
  rcases hx with hx|⟨_,a,rfl,hs⟩|⟨hx,_⟩
  .exact absurd rfl hx
  .have z:=eqv_refl I e rfl;rw[z]at q;cases rx;cases ry;exact PySem.EqBoolInt.of_rc (BM (A:=X.A) I hs nofun) ⟨.bl true,H,I,rfl,q⟩
  .cases hx
 .exact PySem.EqBoolInt.of_rc z ⟨.bl b,H,I,rfl,q⟩
def DU (hu:X.A.units+200<cLine):cI X (compareOp .NotEq) (dw X.K true):=by
 intro Y s U H x y v u Q I rx ry h;unfold dw at h;rcases h with z|⟨n,b,e,hn,hx,q⟩
 .exact z.elim
 rcases(oy I e (A:=X.A) nofun rx ry).2 with z|⟨_,z⟩
 .subst z;rcases hx with hx|hx
  .have z:=eqv_refl I e rfl;have r:=pI (s:=s) (A:=X.A) rx ry hx hx;have z2:=eqv_refl I (cg.flat (K:=X.K) (H:=H) (n:=0) hx hx) rfl;rw[z2]at r;rw[z]at q;exact PySem.EqBoolInt.of_rcne r ⟨.bl false,H,I,rfl,q⟩
  rcases hx with hx|⟨hx,_⟩|⟨_,a,rfl,hs⟩
  .exact absurd rfl hx
  .cases hx
  .have z:=eqv_refl I e rfl;rw[z]at q;cases rx;cases ry;exact PySem.EqBoolInt.of_rcne (Af (A:=X.A) I hs nofun) ⟨.bl false,H,I,rfl,q⟩
 .exact PySem.EqBoolInt.of_rcne z ⟨.bl (!b),H,I,rfl,q⟩
end
@[irreducible] noncomputable def Bu (K:W.Frag) (a b:Addr) (H:Hp) (Q:VK):Prop:=(∃ xs ys,H a=some (.lst xs)/\H b=some (.lst ys)/\xs.length+ys.length<=100000/\∀ p,H p=none->Q (.ref p) (upd H p (.lst (xs++ys))))\/False
@[irreducible] noncomputable def A9 (K:W.Frag) (a:Addr) (k:Int) (H:Hp) (Q:VK):Prop:=(∃ xs,H a=some (.lst xs)/\ -1000<=k/\k<=1000/\xs.length<=1000/\∀ p,H p=none->Q (.ref p) (upd H p (.lst (sK k.toNat xs).flatten)))\/False
abbrev DS (K:W.Frag):R2:=λx y H Q=>match x,y with
 | .int i,.int j=>Q (.int (i+j)) H
 | .str a,.str b=>a.length+b.length<=100000/\Q (.str (a++b)) H
 | .ref a,.ref b=>Bu K a b H Q
 |_,_=>False
abbrev Dy:R2:=λx y H Q=>match x,y with
 | .int i,.int j=>Q (.int (i-j)) H
 |_,_=>False
abbrev Fj (K:W.Frag):R2:=λx y H Q=>match x,y with
 | .int i,.int j=>pk i j/\Q (.int (i*j)) H
 | .ref a,.int k=>A9 K a k H Q
 |_,_=>False
abbrev Dp:R2:=λx y H Q=>match x,y with
 | .int i,.int j=>(0<j/\j<1073741824)/\Q (.int (i / j)) H
 |_,_=>False
abbrev EJ:R2:=λx y H Q=>match x,y with
 | .int i,.int j=>0<j/\Q (.int (i % j)) H
 |_,_=>False
abbrev DK:R2:=λx y H Q=>match x,y with
 | .int i,.int j=>zq i j/\Q (.int (i ^ j.toNat)) H
 |_,_=>False
abbrev D3 (K:W.Frag)(op:Operator):R2:=match op with
 | .Add=>DS K
 | .Sub=>Dy
 | .Mult=>Fj K
 | .FloorDiv=>Dp
 | .Mod=>EJ
 | .Pow=>DK
 |_=>λ_ _ _ _=>False
section
variable {X:Cx}
def jB {n:Nat}(h:n<=1000000):n<=bn:=by rw[sizeLine_eq];omega
def Ej (op:Operator):cI X (binaryOp op) (D3 X.K op):=by
 intro Y s U H x y v u Q I rx ry h;cases op with
 |Add=>
  have h':DS X.K x y H Q:=h;unfold DS at h'
  split at h'
  .exact Eg Y s U H _ _ v u Q I rx ry ⟨_,_,rfl,rfl,h'⟩
  .exact rM Y s U H _ _ v u Q I rx ry ⟨_,_,rfl,rfl,jB nofun,h'.2⟩
  .unfold Bu at h';rcases h' with⟨xs,ys,ha,hb,hz,q⟩|h'
   .exact Eu Y s U H _ _ v u Q I rx ry ⟨_,_,xs,ys,rfl,rfl,ha,hb,jB nofun,q⟩
   .exact h'.elim
  .exact h'.elim
 |Sub=>
  have h':Dy x y H Q:=h;unfold Dy at h'
  split at h'
  .exact DA Y s U H _ _ v u Q I rx ry ⟨_,_,rfl,rfl,h'⟩
  .exact h'.elim
 |Mult=>
  have h':Fj X.K x y H Q:=h;unfold Fj at h'
  split at h'
  .exact Du Y s U H _ _ v u Q I rx ry ⟨_,_,rfl,rfl,h'.1,h'.2⟩
  .rename_i k;unfold A9 at h';rcases h' with⟨xs,ha,h1,h2,hz,q⟩|h'
   .refine C5 Y s U H _ _ v u Q I rx ry ⟨_,k,xs,rfl,rfl,ha,by omega,by omega,jB ?_,q⟩;have:xs.length*k.toNat<=1000*1000:=Nat.mul_le_mul hz nofun
    omega
   .exact h'.elim
  .exact h'.elim
 |FloorDiv=>
  have h':Dp x y H Q:=h;unfold Dp at h'
  split at h'
  .exact Aj Y s U H _ _ v u Q I rx ry ⟨_,_,rfl,rfl,h'.1,h'.2⟩
  .exact h'.elim
 |Mod=>
  have h':EJ x y H Q:=h;unfold EJ at h'
  split at h'
  .exact E7 Y s U H _ _ v u Q I rx ry ⟨_,_,rfl,rfl,h'.1,h'.2⟩
  .exact h'.elim
 |Pow=>
  have h':DK x y H Q:=h;unfold DK at h'
  split at h'
  .exact C6 Y s U H _ _ v u Q I rx ry ⟨_,_,rfl,rfl,h'.1,h'.2⟩
  .exact h'.elim
 |_=>exact(show False from h).elim
abbrev ua (f:Int->Int->Bool):R2:=λx y H Q=>match x,y with
 | .int i,.int j=>Q (.bl (f i j)) H
 |_,_=>False
@[irreducible] noncomputable def GD (K:W.Frag) (neg:Bool):R2:=λx y H Q=>match y with
 | .ref p=>(∃ xs,(ba K H p xs\/aX K H p xs)/\aG x=true/\xs.all aG=true/\Q (.bl (if neg then !FA x xs else FA x xs)) H)\/False\/False\/False
 | .str j=>False
 |_=>False
@[irreducible] noncomputable def yX (neg:Bool):R2:=λx y H Q=>match y with
 | .non=>Q (.bl (if neg then !decide (x=.non) else decide (x=.non))) H
 | .bl b=>False
 | .ref b=>False
 |_=>False
abbrev pE (K:W.Frag)(op:CmpOp):R2:=match op with
 | .Eq=>dw K false
 | .NotEq=>dw K true
 | .Lt=>ua λi j=>decide (i<j)
 | .LtE=>ua λi j=>decide (i<=j)
 | .Gt=>ua λi j=>decide (j<i)
 | .GtE=>ua λi j=>decide (j<=i)
 | .In=>GD K false
 | .NotIn=>λ_ _ _ _=>False
 | .Is=>yX false
 | .IsNot=>yX true
def mD {f:Int->Int->Bool}{op:CmpOp}(ho:cI X (compareOp op) (A3 λi j=>.bl (f i j))):cI X (compareOp op) (ua f):=by
 intro Y s U H x y v u Q I rx ry h;unfold ua at h
 split at h
 .exact ho Y s U H _ _ v u Q I rx ry ⟨_,_,rfl,rfl,h⟩
 .exact h.elim
def Dx (hu:X.A.units+200<cLine)(op:CmpOp):cI X (compareOp op) (pE X.K op):=by
 cases op with
 |Eq=>exact C0 hu
 |NotEq=>exact DU hu
 |Lt=>exact mD FO
 |LtE=>exact mD Gz
 |Gt=>exact mD Hw
 |GtE=>exact mD FT
 |In=>
  intro Y s U H x y v u Q I rx ry h;have h':GD X.K false x y H Q:=h;unfold GD at h'
  split at h'
  .rcases h' with⟨xs,hx,f1,f2,q⟩|g|y|z
   .exact t8 Y s U H _ _ v u Q I rx ry ⟨_,xs,rfl,hx,f1,f2,q⟩
   .exact g.elim
   .exact y.elim
   .exact z.elim
  .exact h'.elim
  .exact h'.elim
 |NotIn=>exact λ_ _ _ _ _ _ _ _ _ _ _ _ h=>(show False from h).elim
 |Is=>
  intro Y s U H x y v u Q I rx ry h;have h':yX false x y H Q:=h;unfold yX at h'
  split at h'
  .exact DV Y s U H _ _ v u Q I rx ry ⟨rfl,h'⟩
  .exact h'.elim
  .exact h'.elim
  .exact h'.elim
 |IsNot=>
  intro Y s U H x y v u Q I rx ry h;have h':yX true x y H Q:=h;unfold yX at h'
  split at h'
  .exact zA Y s U H _ _ v u Q I rx ry ⟨rfl,h'⟩
  .exact h'.elim
  .exact h'.elim
  .exact h'.elim
@[irreducible] noncomputable def qk (K:W.Frag):R2:=λx y H Q=>match x with
 | .ref p=>(∃ xs i v,y=.int i/\(ba K H p xs\/aX K H p xs)/\kU xs i=some v/\Q v H)\/(∃ v,Ef H p y (some v)/\Q v H)\/False
 | .str z=>False
 |_=>False
def rC (hu:X.A.units+200<cLine):GU X (qk X.K):=by
 intro value slice Y s U H x y v u Q I rx ry h hs;unfold qk at h
 split at h
 .rcases h with⟨xs,i,w,rfl,hx,ha,q⟩|⟨w,g,q⟩|z
  .rcases hx with hx|hx
   .exact Ax value slice Y s U H _ _ v u Q I rx ry ⟨_,xs,i,w,rfl,rfl,hx,ha,q⟩ hs
   .exact EC value slice Y s U H _ _ v u Q I rx ry ⟨_,xs,i,w,rfl,rfl,hx,ha,q⟩ hs
  .cases rx;exact tail_any (ou I g) PySem.F.slot_dict_getitem.lookup (uT nofun I g ry λw' s3 I3 rw'=>⟨w,H,I3,rw',q⟩) hs
  .exact z.elim
 .exact h.elim
 .exact h.elim
@[irreducible] noncomputable def mh:t5:=λo i v H Q=>match o with
 | .ref p=>(∃ xs k j,i=.int k/\H p=some (.lst xs)/\xJ xs.length k=some j/\Q (upd H p (.lst (xs.set j v))))\/∃ H4,FJ H p i v H4/\Q H4
 |_=>False
def rS (hu:X.A.units+200<cLine):Bw X mh:=by
 intro Y s U H o i v ov iv u Q I ro ri rv h;unfold mh at h
 split at h
 .rcases h with⟨xs,k,j,rfl,hp,hj,q⟩|⟨H4,g,q⟩
  .exact set_list Y s U H _ _ v ov iv u Q I ro ri rv ⟨_,xs,k,j,rfl,rfl,hp,hj,q⟩
  .cases ro;exact ui nofun I g ri rv λs4 I4=>⟨H4,I4,q⟩
 .exact h.elim
@[irreducible] noncomputable def FG (K:W.Frag):V->Option Int->Option Int->Hp->VK->Prop:=λx lo hi H Q=>match x with
 | .ref a=>(∃ xs,ba K H a xs/\∀ p,H p=none->Q (.ref p) (upd H p (.lst (pz xs lo hi))))\/False
 | .str z=>False
 |_=>False
def Dl:HW X (FG X.K):=by
 intro Y s U H x v vl vu lo hi sl Q I rx hs pl pu h;unfold FG at h
 split at h
 .rcases h with⟨xs,hx,q⟩|h
  .exact AL Y s U H _ v vl vu lo hi sl Q I rx hs pl pu ⟨_,xs,rfl,hx,q⟩
  .exact h.elim
 .exact h.elim
 .exact h.elim
end
end L2
namespace L3
open PySem L2
set_option genSizeOf false
inductive Bf where
 |len|list|tuple|int|str|min|max|abs|all|any|dict|sum
 deriving DecidableEq
inductive Lm where
 |append|extend|insert|pop|clear|reverse|count
 deriving DecidableEq
inductive Sm where
 |join|split|starts
 deriving DecidableEq
inductive Cl where
 |own (c:Nat)|ty (n:String)
mutual
inductive Ex where
 |v (i:Nat)|int (i:Int)|bl (b:Bool)|non|str (x:Str)|gl (x:Str)
 |bin (op:Operator) (a b:Ex)|neg (a:Ex)|not (a:Ex)|and (a b:Ex)|or (a b:Ex)
 |cmp (op:CmpOp) (a b:Ex)|cmp2 (o1 o2:CmpOp) (a b c:Ex)|cmp3 (o1 o2 o3:CmpOp) (a b c d:Ex)
 |ife (c:Tx) (a b:Ex)|tup (es:ft)|lst (es:ft)|ix (a i:Ex)|sl (a:Ex) (lo hi:Iq)
 |fld (a:Ex) (f:Str)|call (f:Nat) (es:ft)|meth (a:Ex) (m:Str) (es:ft)|lm (m:Lm) (a:Ex) (es:ft)|make (c:Nat) (es:ft)|bini (es:ft)|cini (c:Nat) (es:ft)
 |bf (b:Bf) (es:ft)|sm (m:Sm) (a b:Ex)|isi (a:Ex) (c:Cl)|lc (elt:Ex) (sel:List Nat) (it:zF)|lci (elt:Ex) (c:Tx) (sel:List Nat) (it:zF)|lct (elt:Ex) (n:Nat) (sel:List Nat) (it:zF)|lcu (elt:Ex) (c:Tx) (n:Nat) (sel:List Nat) (it:zF)|dnew|up (a:Ex)|dzip (a b:Ex)|isiT (a:Ex) (cs:List Nat)|vals (tp:Bool) (a:Ex)|mk0 (c:Nat)|disp (ks:List Str) (es:ft)|lix (a b:Ex)|rev (a b:Ex)|dget (a k d:Ex)|dupd (a b:Ex)
inductive Tx where
 |not (a:Tx)|and (a b:Tx)|or (a b:Tx)|cmp (op:CmpOp) (a b:Ex)|cmp2 (o1 o2:CmpOp) (a b c:Ex)|val (e:Ex)
inductive ft where
 |nil|cons (e:Ex) (es:ft)
inductive Iq where
 |no|yes (e:Ex)
inductive zF where
 |rng1 (a:Ex)|rng2 (a b:Ex)|rng3 (a b c:Ex)|enm (a:Ex)|enf (a:Ex)|seq (a:Ex)|zip (a b:Ex)|zip3 (a b c:Ex)
end
inductive HY where
 |nm (i:Nat)|tp (is:List Nat)|nt (i:Nat) (is:List Nat)
mutual
inductive Sx where
 |asg (i:Nat) (e:Ex)|asgT (is:List Nat) (e:Ex)|par (is:List Nat) (es:ft)|sub (o i v:Ex)|fld (o:Ex) (f:Str) (v:Ex)
 |aug (i:Nat) (op:Operator) (e:Ex)|augS (o i:Ex) (op:Operator) (e:Ex)|augF (o:Ex) (f:Str) (op:Operator) (e:Ex)
 |ret (e:Ex)|retN|pass|brk|cont|expr (e:Ex)
 |ife (c:Tx) (a b:j9)|whl (c:Tx) (b:j9)|for (t:HY) (it:zF) (b:j9)|rais (e:Ex)|tryx (b:j9) (hs:yU)
inductive j9 where
 |nil|cons (s:Sx) (r:j9)
inductive yU where
 |nil|cons (c:Nat) (i:Nat) (b:j9) (hs:yU)
end
structure ai where
 ps:List Str
 N:List Str
 dfl:List V
 body:j9
/-- what of the text never changes. gfn,gcl:the global names of defs and classes,by number;gbl:built-in names that are not shadowed;gbi:classes of exceptions whose __init__ is the built-in one;na:class and name that no class of it has;
  me:class,name,def;ini:class,its __init__;oc,xc:plain classes,classes of exceptions;sub,subT:isinstance -/
structure Tab where
 fns:List ai
 gfn:List (Str×Nat)
 gcl:List (Str×Nat)
 gbl:List Str
 gbi:List Str
 na:List (Nat×Str)
 me:List ((Nat×Str)×Nat)
 ini:List (Nat×Nat)
 ini0:List Nat
 inip:List Nat
 oc:List Nat
 xc:List Nat
 sub:List ((Nat×Nat)×Bool)
 subT:List ((Nat×String)×Bool)
 subB:List ((String×String)×Bool)
 subO:List ((String×Nat)×Bool)
 cin:List (Nat×Nat):=[]
structure Rt where
 K:W.Frag
 fad:Nat->Addr
 cad:Nat->Addr
 gl:Str->Option V
inductive Md
 |calm
 |soft
 |aH (e:Addr)
 |mute
abbrev Md.b:Md->Bool
 | .calm=>true
 |_=>false
abbrev Ib (m:Md)(A B:Prop):Prop:=match m with
 | .calm=>m=.calm/\A
 | .soft=>B
 |_=>False
def yi {m:Md}{A B:Prop}(h:Ib m A B):(m=.calm/\A)\/(m=.soft/\B):=by
 cases m with
 |calm=>exact .inl h
 |soft=>exact .inr ⟨rfl,h⟩
 |aH e=>exact h.elim
 |mute=>exact h.elim
structure Gx where
 T:Tab
 R:Rt
 Ψ:Nat->Sp
 cm:Md
abbrev Gx.zb (G:Gx)(f:Nat):Sp:=match G.cm with
 | .calm=>G.Ψ f
 | .soft=>G.Ψ f
 | .aH e=>λvs H Q E=>(∃ C dx fs,H e=some (.exc C dx fs false))/\G.Ψ (f+G.T.fns.length) vs H Q E
 | .mute=>λ_ _ _ _=>False
@[irreducible] noncomputable def ig (c:Bool) (A B:Prop):Prop:=match c with
 |true=>A
 |false=>B
def cP (c:Bool)(A B:Prop):ig c A B=(if c=true then A else B):=by unfold ig;cases c<;>rfl
abbrev Ff (K:W.Frag)(x:V)(H:Hp)(Q:Bool->Hp->Prop):Prop:=match x with
 | .bl k=>Q k H
 |y=>∃ k,BJ K y H k/\Q k H
abbrev tyName:V->Hp->Option String
 | .non,_=>some "NoneType"
 | .bl _,_=>some "bool"
 | .int _,_=>some "int"
 | .str _,_=>some "str"
 | .ref a,H=>match H a with
  |some (.lst _)=>some "list"
  |some (.tup _)=>some "tuple"
  |some (.dK _)=>some "dict"
  |some (.iJ _ (.dK _))=>some "dict"
  |_=>none
 |_,_=>none
@[irreducible] noncomputable def qR (G:Gx) (b:Bf) (vs:List V) (H:Hp) (Q:VK):Prop:=match b with
 | .len=>∃ x n,vs=[x]/\GH G.R.K x H n/\Q (.int n) H
 | .list=>(∃ p ys,vs=[.ref p]/\(ba G.R.K H p ys\/aX G.R.K H p ys)/\∀ l,H l=none->Q (.ref l) (upd H l (.lst ys)))\/(G.cm=.calm/\∃ p kvs,vs=[.ref p]/\Rd H p (.dK kvs)/\∀ l,H l=none->Q (.ref l) (upd H l (.lst (kvs.map (λkv=>kV kv.1)))))
 | .tuple=>∃ p ys,vs=[.ref p]/\((ba G.R.K H p ys/\∀ l,H l=none->Q (.ref l) (upd H l (.tup ys)))\/(aX G.R.K H p ys/\Q (.ref p) H))
 | .int=>False
 | .str=>(∃ i,vs=[.int i]/\i.natAbs.log2<1920/\Q (.str (toString i)) H)\/∃ z,vs=[.str z]/\Q (.str z) H
 | .min=>G.cm=.calm/\((∃ i j,vs=[.int i,.int j]/\Q (.int (if j<i then j else i)) H)\/False)
 | .max=>G.cm=.calm/\((∃ i j,vs=[.int i,.int j]/\Q (.int (if j>i then j else i)) H)\/False)
 | .abs=>False
 | .all=>False
 | .any=>False
 | .dict=>∃ p kvs,vs=[.ref p]/\H p=some (.dK kvs)/\∀ l,H l=none->Q (.ref l) (upd H l (.dK kvs))
 | .sum=>False
@[irreducible] noncomputable def CW (m:Lm) (p:Addr) (xs:List V) (vs:List V) (H:Hp) (Q:VK):Prop:=match m with
 | .append=>∃ y,vs=[y]/\xs.length<=10000/\Q .non (upd H p (.lst (xs++[y])))
 | .extend=>∃ b zs,vs=[.ref b]/\H b=some (.lst zs)/\xs.length+zs.length<=10000/\Q .non (upd H p (.lst (xs++zs)))
 | .insert=>∃ i y,vs=[.int i,y]/\0<=i/\i<=xs.length/\xs.length<=10000/\Q .non (upd H p (.lst (xs.take i.toNat++y::xs.drop i.toNat)))
 | .pop=>False
 | .clear=>False
 | .reverse=>False
 | .count=>False
abbrev dflt (G:Gx)(f n:Nat):List V:=match G.T.fns[f]? with
 |some d=>d.dfl.drop (n+d.dfl.length-d.ps.length)
 |none=>[]
abbrev ft.len:ft->Nat
 | .nil=>0
 | .cons _ es=>es.len+1
abbrev sA (G:Gx)(H:Hp)(a:Addr)(i:Nat):Prop:=(G.T.oc.contains i=true/\∃ dx fs,H a=some (.ins (G.R.cad i) dx fs))\/(G.T.xc.contains i=true/\∃ dx fs fr,H a=some (.exc (G.R.cad i) dx fs fr))
@[irreducible] noncomputable def fZ (G:Gx) (c:Cl) (x:V) (H:Hp) (Q:VK):Prop:=match c with
 | .ty n=>(∃ t b,tyName x H=some t/\G.T.subB.lookup (t,n)=some b/\Q (.bl b) H)\/∃ a i b,x=.ref a/\sA G H a i/\G.T.subT.lookup (i,n)=some b/\Q (.bl b) H
 | .own j=>(∃ t b,tyName x H=some t/\G.T.subO.lookup (t,j)=some b/\Q (.bl b) H)\/∃ a i b,x=.ref a/\sA G H a i/\G.T.sub.lookup (i,j)=some b/\Q (.bl b) H
abbrev anyS (G:Gx)(i:Nat):List Nat->Option Bool
 | []=>some false
 |c::r=>match G.T.sub.lookup (i,c) with
  |some true=>some true
  |some false=>anyS G i r
  |none=>none
abbrev Aq (G:Gx)(t:String):List Nat->Option Bool
 | []=>some false
 |c::r=>match G.T.subO.lookup (t,c) with
  |some true=>some true
  |some false=>Aq G t r
  |none=>none
@[irreducible] noncomputable def nX (G:Gx) (cs:List Nat) (x:V) (H:Hp) (Q:VK):Prop:=(∃ t b,tyName x H=some t/\Aq G t cs=some b/\Q (.bl b) H)\/∃ a i b,x=.ref a/\sA G H a i/\anyS G i cs=some b/\Q (.bl b) H
@[irreducible] noncomputable def nW (G:Gx) (f:Str) (x:V) (H:Hp) (Q:VK):Prop:=∃ a i fs v,x=.ref a/\((G.T.oc.contains i=true/\∃ dx,H a=some (.ins (G.R.cad i) dx fs))\/(G.T.xc.contains i=true/\∃ dx fr,H a=some (.exc (G.R.cad i) (some dx) fs fr)))/\
 G.T.na.contains (i,f)=true/\fs.lookup f=some v/\Q v H
@[irreducible] noncomputable def Ad (G:Gx) (f:Str) (x y:V) (H:Hp) (Q:Hp->Prop):Prop:=∃ a i,x=.ref a/\G.T.na.contains (i,f)=true/\
 ((∃ dx fs,G.T.oc.contains i=true/\H a=some (.ins (G.R.cad i) dx fs)/\fs.length<1000/\Q (upd H a (.ins (G.R.cad i) dx (cj f y fs))))\/
  (∃ d fs,G.T.xc.contains i=true/\H a=some (.exc (G.R.cad i) (some d) fs true)/\fs.length<1000/\Q (upd H a (.exc (G.R.cad i) (some d) (cj f y fs) true)))\/
  (G.T.xc.contains i=true/\H a=some (.exc (G.R.cad i) none [] true)/\∀ d,H d=none->Q (upd (upd H d (.own a)) a (.exc (G.R.cad i) (some d) [(f,y)] true))))
abbrev JJ (op:Operator)(x y:V)(H:Hp)(Q:VK):Prop:=match op,x,y with
 | .Add,.int i,.int j=>Q (.int (i+j)) H
 | .Sub,.int i,.int j=>Q (.int (i-j)) H
 |_,_,_=>False
@[irreducible] noncomputable def yE (K:W.Frag) (x y:V) (H:Hp) (Q:VK):Prop:=match x,y with
 | .ref p,.int i=>∃ xs v,ba K H p xs/\0<=i/\xs[i.toNat]? =some v/\Q v H
 |_,_=>False
abbrev A6 (U:St):List Nat->List V->St
 |i::is,x::xs=>A6 (U.set i (some x)) is xs
 |_,_=>U
@[irreducible] noncomputable def Bs (xs:List V) (H:Hp) (Q:VK):Prop:=xs.length<=10000/\∀ p,H p=none->Q (.ref p) (upd H p (.lst xs))
@[irreducible] noncomputable def iK (xs:List V) (H:Hp) (Q:VK):Prop:=xs.length<=10000/\∀ p,H p=none->Q (.ref p) (upd H p (.tup xs))
@[irreducible] noncomputable def BF (l:Addr) (H:Hp) (R:It->Hp->Prop):Prop:=(∃ xs,H l=some (.lst xs))/\R (FV l) H
@[irreducible] noncomputable def BC (K:W.Frag) (l:Addr) (H:Hp) (R:It->Hp->Prop):Prop:=(∃ xs,aX K H l xs)/\R (HH K l) H
@[irreducible] noncomputable def qt (K:W.Frag) (p:Addr) (H:Hp) (R:It->Hp->Prop):Prop:=((∃ xs,ba K H p xs)/\R (Fu K p) H)\/((∃ xs,aX K H p xs)/\R (vo K p) H)\/False
@[irreducible] noncomputable def Ac (K:W.Frag) (x y:V) (H:Hp) (R:It->Hp->Prop):Prop:=Gg K x y H R
@[irreducible] noncomputable def pd (tp:Bool) (x:V) (H:Hp) (Q:VK):Prop:=BU tp x H Q
@[irreducible] noncomputable def xR (C:Addr) (H:Hp) (Q:VK):Prop:=∀ x dx,H x=none->H dx=none->dx≠x->Q (.ref x) (upd (upd H dx (.own x)) x (.ins C dx []))
@[irreducible] noncomputable def Gw (K:W.Frag) (x y:V) (H:Hp) (Q:VK):Prop:=Kb K x y H Q
@[irreducible] noncomputable def vm (te:TE) (J:It) (σ₀:St) (H1:Hp) (Q:VK):Prop:=LC te J σ₀ H1 Q
def mn: @vm= @LC:=by
 funext te J U H Q
 unfold vm
 rfl
@[irreducible] noncomputable def Fc (tc:TT) (te:TE) (J:It) (σ₀:St) (H1:Hp) (Q:VK):Prop:=LCg (gc 0) tc te J σ₀ H1 Q
def yf: @Fc= @LCg (gc 0):=by
 funext tc te J U H Q
 unfold Fc
 rfl
abbrev gl (is:List Nat):AW:=λvs U H Q=>vs.length=is.length/\Q (A6 U is vs) H
@[irreducible] noncomputable def LCt (K:W.Frag) (n:Nat) (te:TE) (J:It) (σ₀:St) (H1:Hp) (Q:VK):Prop:=LCg (ze K n (gl (List.range n))) yes te J σ₀ H1 Q
def ER {K:W.Frag}{n:Nat}:LCt K n=LCg (ze K n (gl (List.range n))) yes:=by
 funext te J U H Q
 unfold LCt
 rfl
abbrev Fx:List Str->List V->List (Key×V)
 |k::ks,x::xs=>(.inr k,x)::Fx ks xs
 |_,_=>[]
@[irreducible] noncomputable def tH (ks:List Str) (p:Addr) (xs:List V) (H:Hp) (Q:VK):Prop:=H p=some (.dK [])/\Q (.ref p) (upd H p (.dK (gU [] (Fx ks xs))))
mutual
noncomputable def wE (G:Gx):Ex->St->Hp->VK->XK->Prop
 | .v i,U,H,Q,_=>match U[i]? with
  |some (some x)=>Q x H
  |_=>False
 | .int i,_,H,Q,_=>Q (.int i) H
 | .bl b,_,H,Q,_=>Q (.bl b) H
 | .non,_,H,Q,_=>Q .non H
 | .str x,_,H,Q,_=>Q (.str x) H
 | .gl x,_,H,Q,_=>match G.R.gl x with
  |some v=>Q v H
  |none=>False
 | .bin op a b,U,H,Q,E=>wE G a U H (λx H1=>wE G b U H1 (λy H2=>D3 G.R.K op x y H2 Q) E) E
 | .neg a,U,H,Q,E=>wE G a U H (λx H1=>match x with| .int i=>Q (.int (-i)) H1|_=>False) E
 | .not a,U,H,Q,E=>wE G a U H (λx H1=>match x with| .bl c=>Q (.bl (!c)) H1|_=>False) E
 | .and a b,U,H,Q,E=>wE G a U H (λx H1=>match x with| .bl c=>ig c (wE G b U H1 Q E) (Q (.bl false) H1)|_=>False) E
 | .or a b,U,H,Q,E=>wE G a U H (λx H1=>match x with| .bl c=>ig c (Q (.bl true) H1) (wE G b U H1 Q E)|_=>False) E
 | .cmp op a b,U,H,Q,E=>wE G a U H (λx H1=>wE G b U H1 (λy H2=>pE G.R.K op x y H2 Q) E) E
 | .cmp2 o1 o2 a b c,U,H,Q,E=>wE G a U H (λx H1=>wE G b U H1 (λy H2=>pE G.R.K o1 x y H2 λz H3=>match z with| .bl k=>ig k (wE G c U H3 (λw H4=>pE G.R.K o2 y w H4 Q) E) (Q (.bl false) H3)|_=>False) E) E
 | .cmp3 o1 o2 o3 a b c d,U,H,Q,E=>False
 | .ife c a b,U,H,Q,E=>wT G c U H (λk H1=>ig k (wE G a U H1 Q E) (wE G b U H1 Q E)) E
 | .tup es,U,H,Q,E=>wEs G es U H (λxs H1=>iK xs H1 Q) E
 | .lst es,U,H,Q,E=>wEs G es U H (λxs H1=>Bs xs H1 Q) E
 | .ix a i,U,H,Q,E=>wE G a U H (λx H1=>wE G i U H1 (λy H2=>qk G.R.K x y H2 Q) E) E
 | .sl a lo hi,U,H,Q,E=>wE G a U H (λx H1=>wO G lo U H1 (λl H2=>wO G hi U H2 (λu H3=>FG G.R.K x l u H3 Q) E) E) E
 | .fld a f,U,H,Q,E=>wE G a U H (λx H1=>nW G f x H1 Q) E
 | .call f es,U,H,Q,E=>G.cm=G.cm/\wEs G es U H (λvs H1=>G.zb f (vs++dflt G f es.len) H1 Q E) E
 | .meth a m es,U,H,Q,E=>G.cm=G.cm/\wE G a U H (λx H1=>∃ p i dx fs f,x=.ref p/\H1 p=some (.ins (G.R.cad i) dx fs)/\fs.lookup m=none/\G.T.me.lookup (i,m)=some f/\
   wEs G es U H1 (λvs H2=>G.zb f (x::(vs++dflt G f (es.len+1))) H2 Q E) E) E
 | .lm m a es,U,H,Q,E=>wE G a U H (λx H1=>∃ p xs0,x=.ref p/\H1 p=some (.lst xs0)/\wEs G es U H1 (λvs H2=>∃ xs,H2 p=some (.lst xs)/\CW m p xs vs H2 Q) E) E
 | .make c es,U,H,Q,E=>G.cm=G.cm/\match G.T.ini.lookup c with
  |none=>G.T.ini0.contains c=true/\wEs G es U H (λvs H1=>vs.length=1/\∀ x,H1 x=none->Q (.ref x) (upd H1 x (.exc (G.R.cad c) none [] true))) E
  |some f=>if G.T.xc.contains c=true then wEs G es U H (λvs H1=>vs.length<=1000/\∀ x,H1 x=none->G.zb f (.ref x::(vs++dflt G f (es.len+1))) (upd H1 x (.exc (G.R.cad c) none [] true)) (λv H2=>v=.non/\Q (.ref x) H2) E) E
   else wEs G es U H (λvs H1=>∀ x dx,H1 x=none->H1 dx=none->dx≠x->G.zb f (.ref x::(vs++dflt G f (es.len+1))) (upd (upd H1 dx (.own x)) x (.ins (G.R.cad c) dx [])) (λv H2=>v=.non/\Q (.ref x) H2) E) E
 | .bini es,U,H,Q,E=>wEs G es U H (λvs H1=>∃ a i dx fs fr v,vs=[.ref a,v]/\H1 a=some (.exc (G.R.cad i) dx fs fr)/\G.T.xc.contains i=true/\Q .non H1) E
 | .cini c es,U,H,Q,E=>False
 | .bf b es,U,H,Q,E=>wEs G es U H (λvs H1=>qR G b vs H1 Q) E
 | .isi a c,U,H,Q,E=>wE G a U H (λx H1=>fZ G c x H1 Q) E
 | .lc elt sel it,U,H,Q,E=>Ib G.cm (wI G it U H (λJ H1=>vm (λσ' H' Q'=>wE G elt σ' H' Q' E) J (none::dE U sel) H1 Q) E) (IQ G it U H (λJ H1=>vm (λσ' H' Q'=>wE { G with cm:=.mute } elt σ' H' Q' E) J (none::dE U sel) H1 Q) E)
 | .lci elt c sel it,U,H,Q,E=>G.cm=.calm/\wI G it U H (λJ H1=>Fc (λσ' H' Q'=>wT G c σ' H' Q' E) (λσ' H' Q'=>wE G elt σ' H' Q' E) J (none::dE U sel) H1 Q) E
 | .lct elt n sel it,U,H,Q,E=>False
 | .lcu elt c n sel it,U,H,Q,E=>False
 | .dnew,_,H,Q,_=>False
 | .sm m a b,U,H,Q,E=>False
 | .up a,U,H,Q,E=>False
 | .isiT a cs,U,H,Q,E=>wE G a U H (λx H1=>∀ p,H1 p=none->nX G cs x (upd H1 p (.tup (cs.map λc=>.ref (G.R.cad c)))) Q) E
 | .mk0 c,_,H,Q,_=>xR (G.R.cad c) H Q
 | .disp ks es,U,H,Q,E=>∀ p,H p=none->wEs G es U (upd H p (.dK [])) (λxs H2=>tH ks p xs H2 Q) E
 | .dget a k d,U,H,Q,E=>False
 | .dupd a b,U,H,Q,E=>False
 | .rev a b,U,H,Q,E=>False
 | .lix a b,U,H,Q,E=>False
 | .vals tp a,U,H,Q,E=>G.cm=.calm/\wE G a U H (λx H1=>pd tp x H1 Q) E
 | .dzip a b,U,H,Q,E=>G.cm=.calm/\wE G a U H (λx H1=>wE G b U H1 (λy H2=>Gw G.R.K x y H2 Q) E) E
noncomputable def wT (G:Gx):Tx->St->Hp->(Bool->Hp->Prop)->XK->Prop
 | .not a,U,H,Q,E=>wT G a U H (λc H1=>Q (!c) H1) E
 | .and a b,U,H,Q,E=>wT G a U H (λc H1=>ig c (wT G b U H1 Q E) (Q false H1)) E
 | .or a b,U,H,Q,E=>wT G a U H (λc H1=>ig c (Q true H1) (wT G b U H1 Q E)) E
 | .cmp op a b,U,H,Q,E=>wE G a U H (λx H1=>wE G b U H1 (λy H2=>pE G.R.K op x y H2 λz H3=>match z with| .bl k=>Q k H3|_=>False) E) E
 | .cmp2 o1 o2 a b c,U,H,Q,E=>wE G a U H (λx H1=>wE G b U H1 (λy H2=>pE G.R.K o1 x y H2 λz H3=>match z with| .bl k=>ig k (wE G c U H3 (λw H4=>pE G.R.K o2 y w H4 λz H5=>match z with| .bl k=>Q k H5|_=>False) E) (Q false H3)|_=>False) E) E
 | .val e,U,H,Q,E=>wE G e U H (λx H1=>Ff G.R.K x H1 Q) E
noncomputable def wEs (G:Gx):ft->St->Hp->(List V->Hp->Prop)->XK->Prop
 | .nil,_,H,Q,_=>Q [] H
 | .cons e es,U,H,Q,E=>wE G e U H (λx H1=>wEs G es U H1 (λxs H2=>Q (x::xs) H2) E) E
noncomputable def wO (G:Gx):Iq->St->Hp->(Option Int->Hp->Prop)->XK->Prop
 | .no,_,H,Q,_=>Q none H
 | .yes e,U,H,Q,E=>wE G e U H (λx H1=>match x with| .int i=>Q (some i) H1|_=>False) E
noncomputable def IQ (G:Gx):zF->St->Hp->(It->Hp->Prop)->XK->Prop
 | .seq a,U,H,R,E=>wE G a U H (λx H1=>match x with| .ref p=>(∃ xs,aX G.R.K H1 p xs)/\R (vo G.R.K p) H1|_=>False) E
 |_,_,_,_,_=>False
noncomputable def wI (G:Gx):zF->St->Hp->(It->Hp->Prop)->XK->Prop
 | .rng1 a,U,H,R,E=>wE G a U H (λx H1=>match x with| .int j=>-(2 ^ 62)<=j/\j<2 ^ 62/\R (FD 0 j.toNat) H1|_=>False) E
 | .rng2 a b,U,H,R,E=>False
 | .rng3 a b c,U,H,R,E=>wE G a U H (λx H1=>wE G b U H1 (λy H2=>wE G c U H2 (λw H3=>match x,y with| .int i,.int j=>w=.int (-1)/\(-(2 ^ 62)<=i/\i<2 ^ 62/\ -(2 ^ 62)<=j/\j<2 ^ 62)/\R (GG i (i-j).toNat) H3|_,_=>False) E) E) E
 | .enm a,U,H,R,E=>wE G a U H (λx H1=>match x with| .ref l=>BF l H1 R|_=>False) E
 | .enf a,U,H,R,E=>wE G a U H (λx H1=>match x with| .ref l=>BC G.R.K l H1 R|_=>False) E
 | .seq a,U,H,R,E=>wE G a U H (λx H1=>match x with| .ref p=>qt G.R.K p H1 R| .str z=>R (Fz z) H1|_=>False) E
 | .zip a b,U,H,R,E=>wE G a U H (λx H1=>wE G b U H1 (λy H2=>Ac G.R.K x y H2 R) E) E
 | .zip3 a b c,U,H,R,E=>False
end
abbrev IV (D:Ends)(f:St->Hp->Prop):Ends:={ D with nx:=f }
abbrev B9 (D:Ends)(N:St->Hp->Prop):Ends:={ D with nx:=N,ct:=N,bk:=D.nx }
abbrev KD (D:Ends)(i:Nat):Ends:={ nx:=λσ' H'=>D.nx (σ'.set i none) H',rt:=D.rt,bk:=λσ' H'=>D.bk (σ'.set i none) H',ct:=λσ' H'=>D.ct (σ'.set i none) H' }
abbrev wG (U:St)(t:HY)(K:W.Frag)(x:V)(H:Hp)(Q:St->Prop):Prop:=match t with
 | .nm i=>Q (U.set i (some x))
 | .tp is=>∃ a xs,x=.ref a/\(aX K H a xs\/ba K H a xs)/\xs.length=is.length/\Q (A6 U is xs)
 | .nt i is=>∃ a y b ys,x=.ref a/\aX K H a [y,.ref b]/\aX K H b ys/\ys.length=is.length/\Q (A6 (U.set i (some y)) is ys)
@[irreducible] noncomputable def fU (J:It) (D:Ends) (F:(St->Hp->Prop)->V->St->Hp->Prop) (U:St) (H1:Hp):Prop:=∃ W:Nat->Nat->St->Hp->Prop,(∃ m,W 0 m U H1)/\∀ i m U H,W i m U H->
 (J.stop i H/\D.nx U H)\/(J.go i H/\∃ N:St->Hp->Prop,(∀ σ' H',N σ' H'->∃ m',m'<m/\W (i+1) m' σ' H')/\∀ x H',J.yld i H x H'->F N x U H')
mutual
noncomputable def wS:Sx->Gx->Ends->(St->XK)->St->Hp->Prop
 | .asg i e,G,D,E,U,H=>wE G e U H (λx H1=>D.nx (U.set i (some x)) H1) (E U)
 | .asgT is e,G,D,E,U,H=>G.cm=.calm/\wE G e U H (λx H1=>wG U (.tp is) G.R.K x H1 λσ1=>D.nx σ1 H1) (E U)
 | .par is es,G,D,E,U,H=>False
 | .sub o i v,G,D,E,U,H=>wE G v U H (λy H1=>wE G o U H1 (λov H2=>wE G i U H2 (λiv H3=>mh ov iv y H3 (λH4=>D.nx U H4)) (E U)) (E U)) (E U)
 | .fld o f v,G,D,E,U,H=>wE G v U H (λy H1=>wE G o U H1 (λx H2=>Ad G f x y H2 (λH3=>D.nx U H3)) (E U)) (E U)
 | .aug i op e,G,D,E,U,H=>False
 | .augS o i op e,G,D,E,U,H=>wE G o U H (λov H1=>wE G i U H1 (λiv H2=>yE G.R.K ov iv H2 (λx H3=>wE G e U H3 (λy H4=>JJ op x y H4 (λz H5=>mh ov iv z H5 (λH6=>D.nx U H6))) (E U))) (E U)) (E U)
 | .augF o f op e,G,D,E,U,H=>False
 | .ret e,G,D,E,U,H=>wE G e U H D.rt (E U)
 | .retN,_,D,_,_,H=>False
 | .pass,_,D,_,U,H=>False
 | .brk,_,D,_,U,H=>False
 | .cont,_,D,_,U,H=>False
 | .expr e,G,D,E,U,H=>wE G e U H (λ_ H1=>D.nx U H1) (E U)
 | .ife c a b,G,D,E,U,H=>wT G c U H (λk H1=>ig k (wB a G D E U H1) (wB b G D E U H1)) (E U)
 | .whl c b,G,D,E,U,H=>∃ W:Nat->St->Hp->Prop,(∃ m,W m U H)/\∀ m U H,W m U H->wT G c U H (λk H1=>ig k (∃ N:St->Hp->Prop,(∀ σ' H',N σ' H'->∃ m',m'<m/\W m' σ' H')/\wB b G (B9 D N) E U H1) (D.nx U H1)) (E U)
 | .for t it b,G,D,E,U,H=>G.cm=.calm/\wI G it U H (λJ H1=>fU J D (λN x U H'=>wG U t G.R.K x H' λσ2=>wB b G (B9 D N) E σ2 H') U H1) (E U)
 | .rais e,G,_,E,U,H=>G.cm=.calm/\wE G e U H (λv H1=>∃ a i dx fs,v=.ref a/\H1 a=some (.exc (G.R.cad i) dx fs true)/\G.T.xc.contains i=true/\E U a (upd H1 a (.exc (G.R.cad i) dx fs false))) (E U)
 | .tryx b hs,G,D,_,U,H=>G.cm=.calm/\wB b G D (λσ' e H'=>wH hs G D σ' e H') U H
noncomputable def wB:j9->Gx->Ends->(St->XK)->St->Hp->Prop
 | .nil,_,D,_,U,H=>D.nx U H
 | .cons s r,G,D,E,U,H=>wS s G (IV D λσ1 H1=>wB r G D E σ1 H1) E U H
noncomputable def wH:yU->Gx->Ends->St->Addr->Hp->Prop
 | .nil,_,_,_,_,_=>False
 | .cons c i b hs,G,D,U,e,H=>∃ j dx fs k,H e=some (.exc (G.R.cad j) dx fs false)/\G.T.xc.contains j=true/\G.T.sub.lookup (j,c)=some k/\
   ig k (wB b { G with cm:=.aH e } (KD D i) (λ_ _ _=>False) (U.set i (some (.ref e))) H)
    (wH hs G D U e H)
end
end L3
namespace L3
open PySem PySem.Spec L2 PyProof.Rows
structure Sn where
 T:Tab
 sc:Scope
 N:List Str
abbrev Sn.j8 (S:Sn)(x:Str):Bool:=decide (S.sc.names.lookup x=some .globalImplicit)&& !(x ==("__debug__":Str))
abbrev Sn.Hu (S:Sn)(x:Str):Bool:=(decide (S.sc.names.lookup x=some .local)||decide (S.sc.names.lookup x=some .cell)||decide (S.sc.names.lookup x=some .free))&& !(x ==("__debug__":Str))&& !(x ==("__classdict__":Str))
abbrev Sn.loc (S:Sn)(i:Nat)(x:Str):Bool:=decide (S.N[i]? =some x)&&(decide (S.sc.names.lookup x=some .local)||decide (S.sc.names.lookup x=some .cell))
abbrev qm:Expr->Bool
 | .ListComp .. | .SetComp .. | .DictComp ..=>false
 |_=>true
abbrev cJ:Expr->Bool
 | .Set ..=>false
 |_=>true
abbrev en:Expr->Bool
 | .Slice ..=>false
 |_=>true
abbrev et:Expr->Bool
 | .Call (.Name _ _) [] [] _=>false
 |_=>true
abbrev plainT:Expr->Bool
 | .UnaryOp .Not _ _| .BoolOp .. | .IfExp .. | .Compare ..=>false
 |_=>true
abbrev yp:Bf->String
 | .len=>"len"| .list=>"list"| .tuple=>"tuple"| .int=>"int"| .str=>"str"| .min=>"min"| .max=>"max"| .abs=>"abs"| .all=>"all"| .any=>"any"| .dict=>"dict"| .sum=>"sum"
abbrev yN:Lm->String
 | .append=>"append"| .extend=>"extend"| .insert=>"insert"| .pop=>"pop"| .clear=>"clear"| .reverse=>"reverse"| .count=>"count"
abbrev iV:List String:=["int","bool","str","list","tuple","dict","ValueError"]
abbrev AV (S:Sn):Cl->Expr->Bool
 | .own c,.Name x _=>S.j8 x&&decide (S.T.gcl.lookup x=some c)
 | .ty n,.Name x _=>S.j8 x&&decide (x=(n:Str))&&S.T.gbl.contains x&&iV.contains n
 |_,_=>false
abbrev tI (S:Sn):List Nat->List Expr->Bool
 | [],[]=>true
 |c::cs,.Name x _::es=>S.j8 x&&decide (S.T.gcl.lookup x=some c)&&tI S cs es
 |_,_=>false
abbrev cD (outer inner:Scope):Scope:=
 { inner with names:=inner.names.map λ(n,k)=>if(k ==.free&&outer.kind ==.function&&outer.names.lookup n ==some .cell) then(n,.cell) else(n,k) }
abbrev fz (S:Sn)(scope:Scope)(xs:List Str)(sel:List Nat):Bool:=
 decide (scope.kind=.function)&&decide (S.sc.kind=.function)&&scope.names.all (λy=>y.2 != .cell&&(y.2 != .local||decide (scope.names.lookup y.1=some .local))&&(y.2 != .free||(decide (S.sc.names.lookup y.1=some .cell))))&&xs.all (λx=>decide (scope.names.lookup x=some .local))&&
 sel.all (λi=>match S.N[i]? with|some y=>decide (S.sc.names.lookup y=some .cell)&&decide ((cD S.sc scope).names.lookup y=some .cell)|none=>false)&&decide ((xs++sel.filterMap λi=>S.N[i]?).Nodup)
abbrev Gu:List Expr->List Str
 | .Name x _::r=>x::Gu r
 |_=>[]
abbrev xC (S:Sn):List Nat->List Expr->Bool
 | [],[]=>true
 |i::is,.Name x _::r=>decide (S.N[i]? =some x)&&decide (S.sc.names.lookup x=some .local)&&xC S is r
 |_,_=>false
abbrev lS:List Str->List (Option Expr)->Bool
 | [],[]=>true
 |k::ks,some (.Constant (.str x) _ _)::r=>decide (k=x)&&lS ks r
 |_,_=>false
mutual
noncomputable def mE (S:Sn):Ex->Expr->Bool
 | .v i,e=>match e with| .Name x _=>decide (S.N[i]? =some x)&&S.Hu x|_=>false
 | .int i,e=>match e with| .Constant y1 _ _=>(match y1 with| .int j=>decide (i=j)|_=>false)|_=>false
 | .bl i,e=>match e with| .Constant y1 _ _=>(match y1 with| .bool j=>decide (i=j)|_=>false)|_=>false
 | .non,e=>match e with| .Constant y1 _ _=>(match y1 with| .none=>true|_=>false)|_=>false
 | .str i,e=>match e with| .Constant y1 _ _=>(match y1 with| .str j=>decide (i=j)|_=>false)|_=>false
 | .gl x,e=>match e with| .Name y _=>decide (x=y)&&S.j8 y|_=>false
 | .bin op a b,e=>match e with| .BinOp a' op' b' _=>decide (op=op')&&mE S a a'&&mE S b b'|_=>false
 | .neg a,e=>match e with| .UnaryOp y1 a' _=>(match y1 with| .USub=>mE S a a'|_=>false)|_=>false
 | .not a,e=>match e with| .UnaryOp y1 a' _=>(match y1 with| .Not=>mE S a a'|_=>false)|_=>false
 | .and a b,e=>match e with| .BoolOp y1 y2 p=>(match y1 with| .And=>(match y2 with|a'::b'::r=>mE S a a'&&mE S b (match r with| []=>b'|_=>.BoolOp .And (b'::r) p)|_=>false)|_=>false)|_=>false
 | .or a b,e=>match e with| .BoolOp y1 y2 p=>(match y1 with| .Or=>(match y2 with|a'::b'::r=>mE S a a'&&mE S b (match r with| []=>b'|_=>.BoolOp .Or (b'::r) p)|_=>false)|_=>false)|_=>false
 | .cmp op a b,e=>match e with| .Compare a' y1 y2 _=>(match y1 with| [op']=>(match y2 with| [b']=>decide (op=op')&&mE S a a'&&mE S b b'&&cJ b'|_=>false)|_=>false)|_=>false
 | .cmp2 o1 o2 a b c,e=>match e with| .Compare a' y1 y2 _=>(match y1 with| [p1,p2]=>(match y2 with| [b',c']=>decide (o1=p1)&&decide (o2=p2)&&mE S a a'&&mE S b b'&&mE S c c'&&cJ c'|_=>false)|_=>false)|_=>false
 | .cmp3 o1 o2 o3 a b c d,_=>false
 | .ife c a b,e=>match e with| .IfExp c' a' b' _=>mT S c c'&&mE S a a'&&mE S b b'|_=>false
 | .tup es,e=>match e with| .Tuple es' _ _=>iU S es es'|_=>false
 | .lst es,e=>match e with| .List es' _=>iU S es es'|_=>false
 | .ix a i,e=>match e with| .Subscript a' i' _=>mE S a a'&&mE S i i'&&en i'|_=>false
 | .sl a lo hi,e=>match e with| .Subscript a' y1 _=>(match y1 with| .Slice lo' hi' y2 _=>(match y2 with|none=>mE S a a'&&mO S lo lo'&&mO S hi hi'|_=>false)|_=>false)|_=>false
 | .fld a f,e=>match e with| .Attribute a' f' _=>mE S a a'&&decide (f=f')&&et a'|_=>false
 | .call f es,e=>match e with| .Call y1 es' y2 _=>(match y1 with| .Name x _=>(match y2 with| []=>S.j8 x&&decide (S.T.gfn.lookup x=some f)&&iU S es es'|_=>false)|_=>false)|_=>false
 | .meth a m es,e=>match e with| .Call y1 es' y2 q=>(match y1 with| .Attribute a' m' p=>(match y2 with| []=>mE S a a'&&decide (m=m')&&iU S es es'&&et a'&&(p.endLine ==q.line)&&decide (es.len<20)|_=>false)|_=>false)|_=>false
 | .dget a k d,_=>false
 | .dupd a b,_=>false
 | .rev a b,_=>false
 | .lix a b,_=>false
 | .lm m a es,e=>match e with| .Call y1 es' y2 q=>(match y1 with| .Attribute a' m' p=>(match y2 with| []=>mE S a a'&&decide (m'=(yN m:Str))&&iU S es es'&&et a'&&(p.endLine ==q.line)&&decide (es.len<20)|_=>false)|_=>false)|_=>false
 | .make c es,e=>match e with| .Call y1 es' y2 _=>(match y1 with| .Name x _=>(match y2 with| []=>S.j8 x&&decide (S.T.gcl.lookup x=some c)&&iU S es es'|_=>false)|_=>false)|_=>false
 | .bini es,e=>match e with| .Call y1 es' y2 q=>(match y1 with| .Attribute y3 m p=>(match y3 with| .Name x _=>(match y2 with| []=>S.j8 x&&decide (m=("__init__":Str))&&S.T.gbi.contains x&&iU S es es'&&decide (es.len=2)&&(p.endLine ==q.line)|_=>false)|_=>false)|_=>false)|_=>false
 | .cini c es,_=>false
 | .bf b es,e=>match e with| .Call y1 es' y2 _=>(match y1 with| .Name x _=>(match y2 with| []=>S.j8 x&&decide (x=(yp b:Str))&&S.T.gbl.contains x&&iU S es es'&&decide (0<es.len)|_=>false)|_=>false)|_=>false
 | .isi a c,e=>match e with| .Call y1 y2 y3 _=>(match y1 with| .Name x _=>(match y3 with| []=>(match y2 with| [a',c']=>S.j8 x&&decide (x=("isinstance":Str))&&S.T.gbl.contains x&&mE S a a'&&AV S c c'|_=>false)|_=>false)|_=>false)|_=>false
 | .lc elt sel it,e=>match e with| .ListComp elt' y1 scope _=>(match y1 with| [y2]=>(match y2 with|⟨y3,iter,y4,y5⟩=>(match y3 with| .Name x px=>(match y4 with| []=>(match y5 with|0=>fz S scope [x] sel&&mI S it (.Name x px) iter&&mE { S with sc:=cD S.sc scope,N:=x::sel.filterMap λi=>S.N[i]? } elt elt'&&cJ iter|_=>false)|_=>false)|_=>false))|_=>false)|_=>false
 | .lci elt c sel it,e=>match e with| .ListComp elt' y1 scope _=>(match y1 with| [y2]=>(match y2 with|⟨y3,iter,y4,y5⟩=>(match y3 with| .Name x px=>(match y4 with| [c']=>(match y5 with|0=>fz S scope [x] sel&&mI S it (.Name x px) iter&&mE { S with sc:=cD S.sc scope,N:=x::sel.filterMap λi=>S.N[i]? } elt elt'&&mT { S with sc:=cD S.sc scope,N:=x::sel.filterMap λi=>S.N[i]? } c c'&&cJ iter|_=>false)|_=>false)|_=>false))|_=>false)|_=>false
 | .lct elt n sel it,_=>false
 | .lcu elt c n sel it,_=>false
 | .dnew,_=>false
 | .sm m a b,_=>false
 | .up a,_=>false
 | .isiT a cs,e=>match e with| .Call y1 y2 y3 _=>(match y1 with| .Name x _=>(match y3 with| []=>(match y2 with| [a',y4]=>(match y4 with| .Tuple es' _ _=>S.j8 x&&decide (x=("isinstance":Str))&&S.T.gbl.contains x&&mE S a a'&&tI S cs es'&&decide (cs.length<=100)|_=>false)|_=>false)|_=>false)|_=>false)|_=>false
 | .mk0 c,e=>match e with| .Call y1 y2 y3 _=>(match y1 with| .Name x _=>(match y2 with| []=>(match y3 with| []=>S.j8 x&&decide (S.T.gcl.lookup x=some c)&&S.T.inip.contains c|_=>false)|_=>false)|_=>false)|_=>false
 | .disp ks es,e=>match e with| .Dict keys vals _=>lS ks keys&&iU S es vals&&decide (es.len=ks.length)&&decide (0<ks.length)&&decide (ks.length<=15)|_=>false
 | .vals tp a,e=>match e with| .Call y1 y2 y3 _=>(match y1 with| .Name x _=>(match y3 with| []=>(match y2 with| [y4]=>(match y4 with| .Call y5 y6 y7 q=>(match y5 with| .Attribute a' m p=>(match y6 with| []=>(match y7 with| []=>S.j8 x&&decide (x=Az tp)&&S.T.gbl.contains x&&mE S a a'&&decide (m=("values":Str))&&et a'&&(p.endLine ==q.line)|_=>false)|_=>false)|_=>false)|_=>false)|_=>false)|_=>false)|_=>false)|_=>false
 | .dzip a b,e=>match e with| .Call y1 y2 y3 _=>(match y1 with| .Name x _=>(match y3 with| []=>(match y2 with| [y4]=>(match y4 with| .Call y5 y6 y7 _=>(match y5 with| .Name y _=>(match y7 with| []=>(match y6 with| [a',b']=>S.j8 x&&decide (x=("dict":Str))&&S.T.gbl.contains x&&S.j8 y&&decide (y=("zip":Str))&&S.T.gbl.contains y&&mE S a a'&&mE S b b'&&notStar a'&&notStar b'|_=>false)|_=>false)|_=>false)|_=>false)|_=>false)|_=>false)|_=>false)|_=>false
noncomputable def mT (S:Sn):Tx->Expr->Bool
 | .not a,e=>match e with| .UnaryOp y1 a' _=>(match y1 with| .Not=>mT S a a'|_=>false)|_=>false
 | .and a b,e=>match e with| .BoolOp y1 y2 p=>(match y1 with| .And=>(match y2 with|a'::b'::r=>mT S a a'&&mT S b (match r with| []=>b'|_=>.BoolOp .And (b'::r) p)|_=>false)|_=>false)|_=>false
 | .or a b,e=>match e with| .BoolOp y1 y2 p=>(match y1 with| .Or=>(match y2 with|a'::b'::r=>mT S a a'&&mT S b (match r with| []=>b'|_=>.BoolOp .Or (b'::r) p)|_=>false)|_=>false)|_=>false
 | .cmp op a b,e=>match e with| .Compare a' y1 y2 _=>(match y1 with| [op']=>(match y2 with| [b']=>decide (op=op')&&mE S a a'&&mE S b b'&&cJ b'|_=>false)|_=>false)|_=>false
 | .cmp2 o1 o2 a b c,e=>match e with| .Compare a' y1 y2 _=>(match y1 with| [p1,p2]=>(match y2 with| [b',c']=>decide (o1=p1)&&decide (o2=p2)&&mE S a a'&&mE S b b'&&mE S c c'&&cJ c'|_=>false)|_=>false)|_=>false
 | .val e,e'=>mE S e e'&&plainT e'
noncomputable def iU (S:Sn):ft->List Expr->Bool
 | .nil,es=>es.isEmpty
 | .cons e es,l=>match l with|e'::es'=>mE S e e'&&notStar e'&&iU S es es'| []=>false
noncomputable def mO (S:Sn):Iq->Option Expr->Bool
 | .no,o=>o.isNone
 | .yes e,o=>match o with|some e'=>mE S e e'|none=>false
noncomputable def mI (S:Sn):zF->Expr->Expr->Bool
 | .rng1 a,_,e=>match e with| .Call y1 y2 y3 _=>(match y1 with| .Name x _=>(match y3 with| []=>(match y2 with| [a']=>S.j8 x&&decide (x=("range":Str))&&S.T.gbl.contains x&&mE S a a'&&notStar a'|_=>false)|_=>false)|_=>false)|_=>false
 | .rng2 a b,_,e=>false
 | .rng3 a b c,_,e=>match e with| .Call y1 y2 y3 _=>(match y1 with| .Name x _=>(match y3 with| []=>(match y2 with| [a',b',c']=>S.j8 x&&decide (x=("range":Str))&&S.T.gbl.contains x&&mE S a a'&&mE S b b'&&mE S c c'&&notStar a'&&notStar b'&&notStar c'|_=>false)|_=>false)|_=>false)|_=>false
 | .enm a,t,e=>match e with| .Call y1 y2 y3 _=>(match y1 with| .Name x _=>(match y3 with| []=>(match y2 with| [a']=>S.j8 x&&decide (x=("enumerate":Str))&&S.T.gbl.contains x&&mE S a a'&&notStar a'&&(match t with| .Tuple ..=>true|_=>false)|_=>false)|_=>false)|_=>false)|_=>false
 | .enf a,t,e=>match e with| .Call y1 y2 y3 _=>(match y1 with| .Name x _=>(match y3 with| []=>(match y2 with| [a']=>S.j8 x&&decide (x=("enumerate":Str))&&S.T.gbl.contains x&&mE S a a'&&notStar a'&&(match t with| .Tuple ..=>true|_=>false)|_=>false)|_=>false)|_=>false)|_=>false
 | .seq a,_,e=>mE S a e
 | .zip a b,t,e=>match e with| .Call y1 y2 y3 _=>(match y1 with| .Name x _=>(match y3 with| []=>(match y2 with| [a',b']=>S.j8 x&&decide (x=("zip":Str))&&S.T.gbl.contains x&&mE S a a'&&mE S b b'&&notStar a'&&notStar b'&&(match t with| .Tuple ..=>true|_=>false)|_=>false)|_=>false)|_=>false)|_=>false
 | .zip3 a b c,t,e=>false
end
end L3
namespace L3
open PySem PySem.Spec L2
variable {e:Expr}
def plainT_ok (h:plainT e=true)(env:Env)(whole:Sem Value):isTrue e env whole=(do let v <-whole;standAt e.pos;holding [v] (truthy v)):=by
 cases e<;>first|rfl|(cases h)|skip
 case UnaryOp op a p=>cases op<;>first|rfl|cases h
def aQ (h:cJ e=true)(env:Env)(x:Value):foldedSetIterable e env x=pure x:=by
 cases e<;>first|rfl|cases h
def d8 (h:cJ e=true)(op:CmpOp):behindInMarks op e=false:=by
 cases e<;>first|rfl|cases h
def gx (h:qm e=true)(t:Option Expr)(n:Nat)(env:Env):swapsWith e t n env=pure false:=by
 cases e<;>first|rfl|cases h
variable {o:Expr}
def bJ (h:et o=true)(a:Str)(env:Env)(whole:Sem Value):attributeBase o a env whole=whole:=by
 cases o with
 |Call f as ks p=>
  cases f<;>first|rfl|skip
  case Name x q=>
   cases as with
   |nil=>cases ks with
    |nil=>cases h
    |cons k ks=>rfl
   |cons b bs=>rfl
 |_=>rfl
variable {b:Expr}
def rG (h:en b=true):sQ b:=by
 intro o i;cases b<;>first|rfl|cases h
variable {X:Cx}
def PE.bV {t:TE}(h:PE X e t):PE X e (λU H R=>∃ Q,t U H Q/\∀ x H1,Q x H1->R x H1):=λY s U H R I ⟨Q,q,i⟩=>
 ax (h Y s U H Q I q) λ_ _ ⟨v,H',J,r,z⟩=>⟨v,H',J,r,i _ _ z⟩
variable {t:TT}
def PT.bV (h:PT X e t):PT X e (λU H R=>∃ Q,t U H Q/\∀ x H1,Q x H1->R x H1):=λY s U H R I ⟨Q,q,i⟩=>
 ax (h Y s U H Q I q) λ_ _ ⟨H',J,z⟩=>⟨H',J,i _ _ z⟩
def PA.bV {e:List Expr}{t:TA}(h:PA X e t):PA X e (λU H R=>∃ Q,t U H Q/\∀ x H1,Q x H1->R x H1):=λpos Y s U H R I ⟨Q,q,i⟩=>
 ax (h pos Y s U H Q I q) λ_ _ ⟨v,H',J,r,z⟩=>⟨v,H',J,r,i _ _ z⟩
def PE.imp {t t':TE}(h:PE X e t)(hi:∀ U H Q,t' U H Q->t U H Q):PE X e t':=λY s U H Q I q=>h Y s U H Q I (hi _ _ _ q)
def PT.imp {t':TT}(h:PT X e t)(hi:∀ U H Q,t' U H Q->t U H Q):PT X e t':=λY s U H Q I q=>h Y s U H Q I (hi _ _ _ q)
def PS.imp {e:Stmt}{t t':TS}(h:PS X e t)(hi:∀ D U H,t' D U H->t D U H):PS X e t':=λY s U H D I q=>h Y s U H D I (hi _ _ _ q)
structure cu (c:Bool) (P:Program) (w:World) (K:W.Frag) (mg:K3) (base:Heap) (k:Nat) (f:Addr) (d:ai) (sp:Sp):Prop where
 fact:∃ fd,cz c P w K mg base (vz P w) k f fd d.ps sp/\∀ j,∃ ds,Binds K fd d.ps ds/\Vals (d.dfl.drop j) ds
 own:∀ fd oc od osl,K.lookup f=some ⟨oc,od,.func fd,osl⟩->cz c P w K mg base (vz P w) k f fd d.ps sp
variable {K:W.Frag}
def cu.imp {c:Bool}{P:Program}{w:World}{mg:K3}{base:Heap}{k:Nat}{f:Addr}{d:ai}{sp sp':Sp}(F:cu c P w K mg base k f d sp)(h:∀ vs H Q E,sp' vs H Q E->sp vs H Q E):cu c P w K mg base k f d sp':=
 ⟨let⟨fd,o,b⟩:=F.fact;⟨fd,o.imp h,b⟩,λfd oc od osl e=>(F.own fd oc od osl e).imp h⟩
structure zm (K:W.Frag) (mg:K3) (T:Tab) (R:Rt):Prop where
 gfn:∀ x f,T.gfn.lookup x=some f->mg x=some (.ref (R.fad f))/\W.keepIn K (.ref (R.fad f))=true/\∃ d,T.fns[f]? =some d
 gcl:∀ x c,T.gcl.lookup x=some c->mg x=some (.ref (R.cad c))
 gbl:∀ x,T.gbl.contains x=true->mg x=none/\x≠"__name__"
 gbi:∀ x,T.gbi.contains x=true->∃ B,mg x=some (.ref B)/\Kl K B
 gl:∀ x v,R.gl x=some v->∃ u,mg x=some u/\RelV v u
 na:∀ i f,T.na.contains (i,f)=true->dH K (R.cad i) f
 me:∀ i m f,T.me.lookup (i,m)=some f->Bo K (R.cad i)/\Meth K (R.cad i) m (R.fad f)/\∃ d,T.fns[f]? =some d
 ini0:∀ c,T.ini0.contains c=true->Fd K (R.cad c)
 inip:∀ c,T.inip.contains c=true->JZ K (R.cad c)
 ini:∀ c f,T.ini.lookup c=some f->(∃ d,T.fns[f]? =some d)/\if T.xc.contains c=true then Ia K (R.cad c) (R.fad f) else Mk K (R.cad c) (R.fad f)
 oc:∀ c,T.oc.contains c=true->Bo K (R.cad c)/\IA K (R.cad c)
 xc:∀ c,T.xc.contains c=true->ck K (R.cad c)/\wJ K (R.cad c)
 sub:∀ i j b,T.sub.lookup (i,j)=some b->W.kitOne K (.ref (R.cad i)) (.ref (R.cad j))=some b/\(T.xc.contains i=true->W.mroIn K (R.cad i) (.ref (R.cad j))=some b/\ck K (R.cad j))
 subT:∀ i n b,T.subT.lookup (i,n)=some b->W.kitOne K (.ref (R.cad i)) (.type n)=some b
 subB:∀ t n b,T.subB.lookup (t,n)=some b->W.kitOne K (.type t) (.type n)=some b
 subO:∀ t j b,T.subO.lookup (t,j)=some b->W.kitOne K (.type t) (.ref (R.cad j))=some b
 cin:∀ c f,T.cin.lookup c=some f->KQ K (R.cad c) (R.fad f)/\∃ d,T.fns[f]? =some d
structure Gd (X:Cx) (G:Gx) (S:Sn) (k:Nat) (E:St->XK):Prop where
 hK:G.R.K=X.K
 hT:S.T=G.T
 sc:X.env.scope=S.sc
 N:X.N=S.N
 nd:S.N.Nodup
 pass:Passes (vz X.prog X.w) X E
 hd:match G.cm with| .calm=>X.calm=true| .soft=>eY X| .aH e=>X.A.handled=some (.ref e)| .mute=>True
 xok:Dm X E
 xst:∃ e0 o0 L,X.stack=e0::o0/\e0.frame=some L/\X.env.frame=some L
 room:bB (k+1) X.A
 un:X.A.units+200<cLine
 tab:zm X.K X.mg G.T G.R
 fns:∀ f d,G.T.fns[f]? =some d->cu G.cm.b X.prog X.w X.K X.mg X.base k (G.R.fad f) d (G.zb f)
 fnsU:G.cm=.calm->∀ f d,G.T.fns[f]? =some d->cu false X.prog X.w X.K X.mg X.base k (G.R.fad f) d (G.Ψ (f+G.T.fns.length))
variable {Y:K2}{H:Hp}{s:Shared}{x:Str}{l es:List Expr}
section
variable {X:Cx}{G:Gx}{S:Sn}{k:Nat}{E:St->XK}
def Gd.cm (g:Gd X G S k E)(hc:G.cm=.calm):X.calm=true:=by
 have h:=g.hd;rw[hc]at h;exact h
def Gd.hh (g:Gd X G S k E){f:Nat}{U:St}{vs:List V}{Q:VK}{E0:XK}(I:Inv X Y U H s)(h:G.zb f vs H Q E0):vk G.cm.b X.A.handled H:=by
 have hd:=g.hd;unfold Gx.zb at h;generalize G.cm=m at*;cases m with
 |calm=>exact I.ok.hd hd
 |soft=>exact eY.now hd I
 |aH e=>exact let⟨⟨C,dx,fs,he⟩,_⟩:=h;⟨e,C,dx,fs,hd,he⟩
 |mute=>exact h.elim
def Gd.cx (g:Gd X G S k E)(U:St):kL X U (E U):=⟨λH s e C dx fs=>g.xok U H s e C dx fs,g.xst⟩
def Gd.bin (g:Gd X G S k E)(op:Operator):cI X (binaryOp op) (D3 G.R.K op):=g.hK▸Ej op
def Gd.cmp (g:Gd X G S k E)(op:CmpOp):cI X (compareOp op) (pE G.R.K op):=g.hK▸Dx g.un op
def Gd.glob (g:Gd X G S k E)(h:S.j8 x=true):Gl X x/\(x ==("__debug__":Str))=false:=by
 unfold Sn.j8 at h;simp only[mo,decide_eq_true_eq,Bool.not_eq_true']at h;refine⟨?_,h.2⟩;show X.env.scope.names.lookup x=_;rw[g.sc];exact h.1
def Gd.Hu (g:Gd X G S k E)(h:S.Hu x=true):Io X.env.scope x/\(x ==("__debug__":Str))=false/\(x ==("__classdict__":Str))=false:=by
 unfold Sn.Hu at h;simp only[mo,Bool.or_eq_true,decide_eq_true_eq,Bool.not_eq_true']at h;refine⟨?_,h.1.2,h.2⟩;unfold Io;rw[g.sc];rcases h.1.1 with(h|h)|h
 .exact .inl h
 .exact .inr (.inl h)
 .exact .inr (.inr h)
def Gd.loc (g:Gd X G S k E){i:Nat}(h:S.loc i x=true):X.N[i]? =some x/\L2.Loc X.env.scope x:=by
 unfold Sn.loc at h;simp only[mo,Bool.or_eq_true,decide_eq_true_eq]at h;rw[g.N];refine⟨h.1,?_⟩;unfold L2.Loc;rw[g.sc];exact h.2
def aJ:∀ {es:ft}{l:List Expr},iU S es l=true->∀ (env:Env) (pos:Pos),(backTo pos (bm l env)).any (·.1)=false
 | .nil,[],_,_,_=>rfl
 | .nil,_::_,h,_,_=>by cases(show false=true from h)
 | .cons e es,[],h,_,_=>by cases(show false=true from h)
 | .cons e es,e'::l,h,env,pos=>by
  have h:(mE S e e'&&notStar e'&&iU S es l)=true:=h;simp only[mo]at h;rw[ab h.1.2];show((backTo pos (bm l env)).any (·.1))=false;exact aJ h.2 env pos
def m8:∀ {es:ft}{l:List Expr},iU S es l=true->l.length=es.len
 | .nil,[],_=>rfl
 | .nil,_::_,h=>by cases(show false=true from h)
 | .cons e es,[],h=>by cases(show false=true from h)
 | .cons e es,e'::l,h=>by
  have h:(mE S e e'&&notStar e'&&iU S es l)=true:=h;simp only[mo]at h;show l.length+1=es.len+1;rw[m8 h.2]
def bt {es:ft}(h:iU S es (e::l)=true):notStar e=true/\∃ x es',es=.cons x es'/\iU S es' l=true:=by
 cases es with
 |nil=>cases(show false=true from h)
 |cons x es'=>
  have h:(mE S x e&&notStar e&&iU S es' l)=true:=h;simp only[mo]at h;exact⟨h.1.2,x,es',rfl,h.2⟩
def sX:∀ {es:ft}{l:List Expr},iU S es l=true->es.len<20->∀ (env:Env) (cpos:Pos),methodCallForm (l.length+([]:List Keyword).length) (backTo cpos (bm l env)) (backToKw cpos (keywordEach [] env))=true:=by
 intro es l h hl env cpos;have h1:=aJ h env cpos;have h2:=m8 h;have h3:(backTo cpos (bm l env)).all (λx=>!x.1)=true:=by
  rw[all_eq_true];intro x hx;rw[any_eq_false]at h1;simpa using h1 x hx
 unfold methodCallForm;rw[h3,h2];simp[keywordEach,backToKw]
 omega
def lh {m:Str}{apos pos:Pos}{env:Env}(hb:et o=true)(hf:methodCallForm (es.length+([]:List Keyword).length) (backTo pos (bm es env)) (backToKw pos (keywordEach [] env))=true)(hl:(apos.endLine ==pos.line)=true):
  eval (.Call (.Attribute o m apos) es [] pos) env=(do
   let ov <-eval o env
   standAt apos.atName
   let(f,first) <-holding [ov] (getMethod ov m (do return (<-importBound o env).getD true))
   callWith pos f first (backTo pos (bm es env)) (backToKw pos (keywordEach [] env))):=by
 show(do
  let ov <-attributeBase o m env (eval o env)
  standAt apos.atName
  methodCall o m apos pos env ov (es.length+([]:List Keyword).length) (backTo pos (bm es env)) (backToKw pos (keywordEach [] env)))=_
 rw[bJ hb];unfold methodCall calleeOf methodCallPos;rw[hf,hl]
 rfl
def Fh {es:ft}(h:iU S es (e::l)=true)(hl:es.len<20)(env:Env)(cpos:Pos):
  ((backTo cpos (bm (e::l) env)).all (λx=>!x.1)&&(backToKw cpos (keywordEach [] env)).all (λx=>x.1.isSome)
   &&decide ((e::l).length+([]:List Keyword).length+(if([]:List Keyword).isEmpty then 0 else 1)<30))=true:=by
 have h1:=aJ h env cpos;have h2:=m8 h;have h3:(backTo cpos (bm (e::l) env)).all (λx=>!x.1)=true:=by
  rw[all_eq_true];intro x hx;rw[any_eq_false]at h1;simpa using h1 x hx
 rw[h3,h2];simp[keywordEach,backToKw]
 omega
end
variable {a:Addr}
section
variable {X:Cx}{G:Gx}{S:Sn}{k:Nat}{E:St->XK}
def gM {x:V}{t:String}(h:tyName x H=some t):gu K H x (.type t):=by
 unfold tyName at h
 split at h
 .cases h;exact .non
 .cases h;exact .bl _
 .cases h;exact .int _
 .cases h;exact .str _
 .split at h
  .rename_i e;cases h;exact .lst e
  .rename_i e;cases h;exact .tup e
  .rename_i e;cases h;exact .dK (.inl e)
  .rename_i e;cases h;exact .dK (.inr ⟨_,e⟩)
  .cases h
 .cases h
def rP {U:St}{Q:VK}{i:Nat}{b:Bool}{cv:Value}(g:Gd X G S k E)(I:Inv X Y U H s)(o:sA G H a i)
  (e:W.kitOne X.K (.ref (G.R.cad i)) cv=some b) (q:Q (.bl b) H):wpAny (model X.prog X.w) X.A (call (.builtin "isinstance") [.ref a,cv]) (EP X Y U Q) X.xe s:=by
 rcases o with⟨ho,dx,fs,ha⟩|⟨ho,dx,fs,fr,ha⟩
 .obtain⟨c,z⟩:=g.tab.oc i ho;exact g8 I (x:=.ref a) rfl (.ins ha c z.ha z.hn z.htk z.hm) e λtk=>⟨.bl b,H,I.tok _,rfl,q⟩
 .obtain⟨c,z⟩:=g.tab.xc i ho;exact yL I ha c z e λtk=>⟨.bl b,H,I.tok _,rfl,q⟩
def A4 (g:Gd X G S k E)(j:Nat):cp X (.builtin "isinstance") (λvs H Q=>∃ x,vs=[x,.ref (G.R.cad j)]/\fZ G (.own j) x H Q):=by
 intro Y s U H xs us Q I r h;obtain⟨x,rfl,h⟩:=h;obtain⟨u,w',rfl,rx,rT⟩:=vals2 r;obtain rfl:w'=Value.ref (G.R.cad j):=rT;unfold fZ at h;rcases h with⟨t,b,ht,hb,q⟩|⟨a,i,b,rfl,ho,hb,q⟩
 .exact g8 I rx (gM ht) (g.tab.subO t j b hb) λtk=>⟨.bl b,H,I.tok _,rfl,q⟩
 .obtain rfl:u=Value.ref a:=rx;exact rP g I ho (g.tab.sub i j b hb).1 q
def EN (g:Gd X G S k E)(n:String):cp X (.builtin "isinstance") (λvs H Q=>∃ x,vs=[x,.ty n]/\fZ G (.ty n) x H Q):=by
 intro Y s U H xs us Q I r h;obtain⟨x,rfl,h⟩:=h;obtain⟨u,w',rfl,rx,rT⟩:=vals2 r;obtain rfl:w'=Value.type n:=rT;unfold fZ at h;rcases h with⟨t,b,ht,hb,q⟩|⟨a,i,b,rfl,ho,hb,q⟩
 .exact g8 I rx (gM ht) (g.tab.subB t n b hb) λtk=>⟨.bl b,H,I.tok _,rfl,q⟩
 .obtain rfl:u=Value.ref a:=rx;exact rP g I ho (g.tab.subT i n b hb) q
def A8 {n:String}(h:iV.contains n=true):bootBuiltins (n:Str)=some (.type n):=by
 have h':n ∈ iV:=by simpa using h
 simp only[iV,lw,not_mem_nil,or_false]at h';rcases h' with rfl|rfl|rfl|rfl|rfl|rfl|rfl<;>decide+kernel
abbrev J6 (G:Gx):Cl->V
 | .own c=>.ref (G.R.cad c)
 | .ty n=>.ty n
def HG (g:Gd X G S k E){c:Cl}(h:AV S c e=true):PE X e (tC (J6 G c)):=by
 unfold AV at h
 split at h
 .simp only[mo,decide_eq_true_eq]at h;obtain⟨hg,hd⟩:=g.glob h.1;exact nj hg (g.tab.gcl _ _ (g.hT▸h.2)) rfl hd
 .simp only[mo,decide_eq_true_eq]at h;obtain⟨⟨⟨h1,rfl⟩,h3⟩,h4⟩:=h;obtain⟨hg,hd⟩:=g.glob h1;obtain⟨hm,hn⟩:=g.tab.gbl _ (g.hT▸h3);exact BL hg hm (A8 h4) rfl hn hd
 .cases h
def CZ (g:Gd X G S k E)(c:Cl):cp X (.builtin "isinstance") (λvs H Q=>∃ x,vs=[x,J6 G c]/\fZ G c x H Q):=by
 cases c with
 |own j=>exact A4 g j
 |ty n=>exact EN g n
def wb (g:Gd X G S k E){i:Nat}{b:Bool}:∀ {cs:List Nat},anyS G i cs=some b->W.kitAny X.K (.ref (G.R.cad i)) ((cs.map λc=>G.R.cad c).map Value.ref)=some b
 | [],h=>h
 |c::cs,h=>by
  have e:∀ b',G.T.sub.lookup (i,c)=some b'->W.kitOne X.K (.ref (G.R.cad i)) (.ref (G.R.cad c))=some b':=λb' hb=>(g.tab.sub i c b' hb).1
  unfold anyS at h;show(match W.kitOne X.K (.ref (G.R.cad i)) (.ref (G.R.cad c)) with|some true=>some true|some false=>W.kitAny X.K (.ref (G.R.cad i)) ((cs.map λc=>G.R.cad c).map Value.ref)|none=>none)=some b
  split at h
  .rename_i q;rw[e _ q];exact h
  .rename_i q;rw[e _ q];exact wb g h
  .cases h
def Cs (g:Gd X G S k E){t:String}{b:Bool}:∀ {cs:List Nat},Aq G t cs=some b->W.kitAny X.K (.type t) ((cs.map λc=>G.R.cad c).map Value.ref)=some b
 | [],h=>h
 |c::cs,h=>by
  have e:∀ b',G.T.subO.lookup (t,c)=some b'->W.kitOne X.K (.type t) (.ref (G.R.cad c))=some b':=λb' hb=>g.tab.subO t c b' hb
  unfold Aq at h;show(match W.kitOne X.K (.type t) (.ref (G.R.cad c)) with|some true=>some true|some false=>W.kitAny X.K (.type t) ((cs.map λc=>G.R.cad c).map Value.ref)|none=>none)=some b
  split at h
  .rename_i q;rw[e _ q];exact h
  .rename_i q;rw[e _ q];exact Cs g h
  .cases h
def zr (g:Gd X G S k E)(cs:List Nat):cp X (.builtin "isinstance") (λvs H Q=>∃ x p,vs=[x,.ref p]/\H p=some (.tup ((cs.map λc=>G.R.cad c).map V.ref))/\nX G cs x H Q):=by
 intro Y s U H xs us Q I r h;obtain⟨x,p,rfl,hp,h⟩:=h;obtain⟨u,w',rfl,rx,rT⟩:=vals2 r;obtain rfl:w'=Value.ref p:=rT;unfold nX at h;rcases h with⟨t,b,ht,hb,q⟩|⟨a,i,b,rfl,ho,hb,q⟩
 .obtain⟨P,Z,hP,hx⟩:=qi I rx (gM (K:=X.K) ht);exact m9 I Z hP hx hp (Cs g hb) λtk=>⟨.bl b,H,I.tok _,rfl,q⟩
 .obtain rfl:u=Value.ref a:=rx;rcases ho with⟨ho,dx,fs,ha⟩|⟨ho,dx,fs,fr,ha⟩
  .obtain⟨c,z⟩:=g.tab.oc i ho;obtain⟨P,Z,hP,hx⟩:=qi I (x:=.ref a) rfl (.ins ha c z.ha z.hn z.htk z.hm);exact m9 I Z hP hx hp (wb g hb) λtk=>⟨.bl b,H,I.tok _,rfl,q⟩
  .obtain⟨c,z⟩:=g.tab.xc i ho;obtain⟨ox,odo,J⟩:=oO I ha;exact m9 I (pe (ox:=ox) (odo:=odo) c z) J (λz=>nomatch z) hp (wb g hb) λtk=>⟨.bl b,H,I.tok _,rfl,q⟩
def wD (g:Gd X G S k E):∀ {cs:List Nat}{es:List Expr},tI S cs es=true->PA X es (λU H Q=>Q (cs.map λc=>.ref (G.R.cad c)) H)
 | [],[],_=>cy
 | [],_::_,h=>by cases(show false=true from h)
 |_::_,[],h=>by cases(show false=true from h)
 |c::cs,e::es,h=>by
  unfold tI at h
  split at h
  .rename_i h1 h2;cases h1
  .rename_i c' cs' x p es' h1 h2;cases h1;cases h2;simp only[mo,decide_eq_true_eq]at h;obtain⟨hg,hd⟩:=g.glob h.1.1;exact eK (nj (v:=.ref (G.R.cad _)) hg (g.tab.gcl _ _ (g.hT▸h.1.2)) rfl hd) (wD g h.2) rfl
  .cases h
abbrev wX:Bf->Value
 | .len=>.builtin "len"| .list=>.type "list"| .tuple=>.type "tuple"| .int=>.type "int"| .str=>.type "str"| .min=>.builtin "min"| .max=>.builtin "max"| .abs=>.builtin "abs"| .all=>.builtin "all"| .any=>.builtin "any"| .dict=>.type "dict"| .sum=>.builtin "sum"
def Bj (b:Bf):bootBuiltins (yp b:Str)=some (wX b):=by cases b<;>decide+kernel
def mJ:cp X (.type "dict") (λvs H Q=>∃ p kvs,vs=[.ref p]/\H p=some (.dK kvs)/\∀ l,H l=none->Q (.ref l) (upd H l (.dK kvs))):=by
 intro Y s U H xs us Q I r h;obtain⟨p,kvs,rfl,hp,q⟩:=h;obtain⟨u,rfl,rx⟩:=vals1 r;cases rx;exact wz I (.inl hp) λl s' hl J=>⟨.ref l,_,J,rfl,q l hl⟩
def GF (g:Gd X G S k E)(b:Bf):cp X (wX b) (qR G b):=by
 intro Y s U H xs us Q I r h;unfold qR at h;rw[g.hK]at h;cases b with
 |len=>exact wW Y s U H _ us Q I r h
 |list=>
  rcases h with h|⟨hc,p,kvs,rfl,hp,q⟩
  .exact lH Y s U H _ us Q I r h
  .obtain⟨u,rfl,ru⟩:=vals1 r;cases ru;exact qu (g.cm hc) I hp q
 |tuple=>exact kG Y s U H _ us Q I r h
 |int=>exact h.elim
 |str=>
  rcases h with h|⟨z,rfl,q⟩
  .exact nu Y s U H _ us Q I r h
  .obtain⟨u,rfl,t,rfl⟩:=vals1 r;exact PySem.P.str_of_str ⟨.str z,H,I,⟨_,rfl⟩,q⟩
 |min=>
  rcases h with⟨hc,h|h⟩
  .exact uw (g.cm hc) Y s U H _ us Q I r h
  .exact h.elim
 |max=>
  rcases h with⟨hc,h|h⟩
  .exact ur (g.cm hc) Y s U H _ us Q I r h
  .exact h.elim
 |abs=>exact h.elim
 |all=>exact h.elim
 |any=>exact h.elim
 |dict=>exact mJ Y s U H _ us Q I r h
 |sum=>exact h.elim
abbrev CY:Lm->String
 | .append=>"list.append"| .extend=>"list.extend"| .insert=>"list.insert"| .pop=>"list.pop"| .clear=>"list.clear"| .reverse=>"list.reverse"| .count=>"list.count"
def tY (m:Lm):Slot "list" (yN m:Str) (CY m):=by
 cases m
 .exact PySem.F.slot_list_append
 .exact PySem.F.slot_list_extend
 .exact PySem.F.slot_list_insert
 .exact PySem.F.slot_list_pop
 .exact PySem.F.slot_list_clear
 .exact PySem.F.slot_list_reverse
 .exact PySem.F.slot_list_count
def Cz (m:Lm):typeOf (.builtin (CY m))=pure (.type "method_descriptor"):=by cases m<;>rfl
abbrev Kr (m:Lm):V->List V->Hp->VK->Prop:=λx vs H Q=>∃ p xs,x=.ref p/\H p=some (.lst xs)/\CW m p xs vs H Q
def B6 (m:Lm):Ip X (CY m) (Kr m):=by
 intro Y s U H x vs v us Q I rx rv h;obtain⟨p,xs,rfl,hp,h⟩:=h;unfold CW at h;cases m with
 |append=>
  obtain⟨y,rfl,h⟩:=h;exact gG Y s U H _ _ v us Q I rx rv ⟨p,xs,_,rfl,rfl,hp,Nat.lt_of_le_of_lt h.1 (by decide),h.2⟩
 |extend=>
  obtain⟨b,zs,rfl,hz,hl,q⟩:=h;exact uP Y s U H _ _ v us Q I rx rv ⟨p,_,xs,zs,rfl,rfl,hp,hz,jB nofun,q⟩
 |insert=>
  obtain⟨i,y,rfl,h⟩:=h;exact uZ Y s U H _ _ v us Q I rx rv ⟨p,xs,_,_,rfl,rfl,hp,h.1,h.2.1,Nat.lt_of_le_of_lt h.2.2.1 (by decide),h.2.2.2⟩
 |pop=>exact h.elim
 |clear=>exact h.elim
 |reverse=>exact h.elim
 |count=>exact h.elim
def wK {m:Str}{apos pos:Pos}{ta:TE}{t:TA}{pl:Sem Bool}{n:Nat}(g:Gd X G S k E)(hc:G.cm=G.cm)(he:PE X o ta)(ha:PA X es t)
  (hnil:es=[]->∀ U H R,t U H R->R [] H) (hst:∀ e r,es=e::r->bm es X.env=(false,eval e X.env)::bm r X.env) (hpl:∀ e r,es=e::r->(backTo pos (bm r X.env)).any (·.1)=false)
  (ht:eval (.Call (.Attribute o m apos) es [] pos) X.env=(do
   let ov <-eval o X.env
   standAt apos.atName
   let(f,first) <-holding [ov] (getMethod ov m pl)
   callWith pos f first (backTo pos (bm es X.env)) (backToKw pos (keywordEach [] X.env)))):
  PE X (.Call (.Attribute o m apos) es [] pos) (λU H Q=>ta U H λx H1=>∃ p i dx fs f,x=.ref p/\H1 p=some (.ins (G.R.cad i) dx fs)/\fs.lookup m=none/\G.T.me.lookup (i,m)=some f/\
   t U H1 λvs H2=>G.zb f (x::(vs++dflt G f n)) H2 Q (E U)):=by
 intro Y s U H Q I h;refine W.methodCall_KW (pl:=pl) (ax (he Y s U H _ I h) λu s1 ⟨x,H1,I1,rx,a,i,dx,fs,f,ex,ea,l,hf,q⟩=>?_) ht;subst ex;obtain rfl:u=Value.ref a:=rx;obtain⟨c,hm,d,hd⟩:=g.tab.me i m f hf;obtain⟨fd,F,B⟩:=(g.fns f d hd).fact;have hr:bB k X.A:=g.room.mono (Nat.le_succ _);obtain⟨ds,hb,hv⟩:∃ ds,Binds X.K fd d.ps ds/\Vals (dflt G f n) ds:=by
  unfold dflt;rw[hd];exact B _
 refine qv I1 ea c hm l ?_;cases es with
 |nil=>
  refine W.callWith_K0 (first:=[.ref a]) I1.bF hm.kp ?_;exact lK (us:=[.ref a]) (vs:=[.ref a]) F g.hh hr hb hv g.pass I1 (.cons rfl .nil) (hnil rfl _ _ _ q)
 |cons e r=>
  refine W.callWith_K (first:=[.ref a]) (h₀:=X.base) I.ok.mod.kin hm.kp (ax (ha pos Y s1 U H1 _ I1 q) λus s2 ⟨vs,H2,I2,r,q2⟩=>⟨I2.bF,?_⟩) (hst e r rfl) (hpl e r rfl);exact lK (us:=.ref a::us) (vs:=.ref a::vs) F g.hh hr hb hv g.pass I2 (.cons rfl r) q2
end
def CH {α β:Type}{f:α->Option β}:∀ {l:List α}{j:Nat}{y:β},(∀ a ∈ l,(f a).isSome=true)->(l.filterMap f)[j]? =some y->∃ a,l[j]? =some a/\f a=some y
 | [],_,_,_,h=>by simp at h
 |a::l,j,y,hs,h=>by
  obtain⟨b,hb⟩:=Option.isSome_iff_exists.mp (hs a lv);rw[filterMap_cons,hb]at h;cases j with
  |zero=>simp at h;exact⟨a,rfl,by rw[hb,h]⟩
  |succ j=>
   simp at h;obtain⟨a',h1,h2⟩:=CH (λa ha=>hs a (dL _ ha)) h;exact⟨a',by simpa using h1,h2⟩
def yz {α β:Type}{f:α->Option β}:∀ {l:List α},(∀ a ∈ l,(f a).isSome=true)->(l.filterMap f).length=l.length
 | [],_=>rfl
 |a::l,hs=>by
  obtain⟨b,hb⟩:=Option.isSome_iff_exists.mp (hs a lv);rw[filterMap_cons,hb];simp[yz (λa ha=>hs a (dL _ ha))]
abbrev jO (env:Env):Str×NameKind->List (Str×Addr)->Sem (ForInStep (List (Str×Addr))):=λnk r=>do
 let cs:=r
 if(nk.2 ==NameKind.free)=true then do
  let a <-cellOf env nk.1
  pure (ForInStep.yield ((nk.1,a)::cs))
 else pure (ForInStep.yield cs)
def nE {env:Env}:∀ (names:List (Str×NameKind)) (cs:List (Str×Addr)),(∀ y ∈ names,y.2=.free->∃ c,env.cells.lookup y.1=some c)->
  ∃ cl,(forIn names cs (jO env):Sem _)=pure cl/\(∀ y c,cl.lookup y=some c->cs.lookup y=some c\/env.cells.lookup y=some c)/\(∀ y,(cs.lookup y).isSome=true->(cl.lookup y).isSome=true)/\∀ y ∈ names,y.2=.free->(cl.lookup y.1).isSome=true
 | [],cs,_=>⟨cs,rfl,λy c h=>.inl h,λy h=>h,λy hy=>absurd hy (by simp)⟩
 |(n,kd)::r,cs,h=>by
  by_cases hk:kd=.free
  .subst hk;obtain⟨c,hc⟩:=h (n,.free) lv rfl;obtain⟨cl,h1,h2,h3,h4⟩:=nE r ((n,c)::cs) λy hy=>h y (dL _ hy)
   have self:(((n,c)::cs).lookup n).isSome=true:=by simp[lookup_cons]
   refine⟨cl,?_,λy d q=>?_,λy q=>h3 y ?_,λy hy hf=>?_⟩
   .rw[forIn_cons];have e:jO env (n,.free) cs=pure (ForInStep.yield ((n,c)::cs)):=by
     unfold jO;simp only[cellOf,hc]
     rfl
    rw[e];exact h1
   .rcases h2 y d q with q|q
    .rw[lookup_cons]at q
     by_cases e:y=n
     .subst e;simp at q;subst q;exact .inr hc
     .rw[show(y ==n)=false from beq_eq_false_iff_ne.mpr e]at q;exact .inl q
    .exact .inr q
   .rw[lookup_cons];cases(y ==n)<;>simp[q]
   .rcases lw.mp hy with rfl|hy
    .exact h3 _ self
    .exact h4 y hy hf
  .obtain⟨cl,h1,h2,h3,h4⟩:=nE r cs λy hy=>h y (dL _ hy)
   refine⟨cl,?_,h2,h3,λy hy hf=>?_⟩
   .rw[forIn_cons];have e:jO env (n,kd) cs=pure (ForInStep.yield cs):=by
     unfold jO;cases kd<;>first|rfl|exact absurd rfl hk
    rw[e];exact h1
   .rcases lw.mp hy with rfl|hy
    .exact absurd hf hk
    .exact h4 y hy hf
variable {scope:Scope}
def Av {env:Env}(h:∀ y ∈ scope.names,y.2=.free->∃ c,env.cells.lookup y.1=some c):
  ∃ cl,closureFor scope env=pure cl/\(∀ y c,cl.lookup y=some c->env.cells.lookup y=some c)/\∀ y ∈ scope.names,y.2=.free->(cl.lookup y.1).isSome=true:=by
 obtain⟨cl,h1,h2,_,h4⟩:=nE scope.names [] h;refine⟨cl,?_,λy c q=>(h2 y c q).resolve_left (by simp),h4⟩;have e:closureFor scope env=(forIn scope.names [] (jO env) >>= λcs=>pure cs):=by
  unfold closureFor jO
  rfl
 rw[e,h1]
 rfl
variable {xs:List Str}{sel:List Nat}{cl:List (Str×Addr)}
section
variable {X:Cx}{G:Gx}{S:Sn}{k:Nat}{E:St->XK}
def jX (g:Gd X G S k E)(scope:Scope):relabel scope X.env=cD S.sc scope:=by
 unfold relabel cD Env.kindOf;rw[g.sc]
def a7 (g:Gd X G S k E)(ok:X.Ok)(h:fz S scope xs sel=true):∃ cl,aS X scope cl xs (sel.filterMap λi=>S.N[i]?) sel:=by
 unfold fz at h;simp only[mo,decide_eq_true_eq,all_eq_true,Bool.or_eq_true,bne_iff_ne,ne_eq]at h;obtain⟨⟨⟨⟨⟨h1,h2⟩,h3⟩,h4⟩,h5⟩,h6⟩:=h;have hs:∀ i ∈ sel,(S.N[i]?).isSome=true:=λi hi=>by
  have:=h5 i hi
  split at this
  .rename_i e;rw[e];rfl
  .cases this
 obtain⟨cl,c1,c2,c3⟩:=Av (env:=X.env) (scope:=scope) λy hy hf=>ok.has y.1 (.inl (by
  show X.env.scope.names.lookup y.1=_;rw[g.sc];exact((h3 y hy).2).resolve_left λz=>z hf))
 refine⟨cl,⟨c1,c2,λy hy=>?_,h1,λy hy=>(h3 y hy).1.1,λy hy hl=>((h3 y hy).1.2).resolve_left λz=>z hl,h4,(yz hs).symm,λj y hj=>?_,h6⟩⟩
 .have:∃ kd,(y,kd) ∈ scope.names/\kd=.free:=by
   rcases hy with hy|hy
   .obtain⟨kd,m,q⟩:=cS hy;rcases q with q|q
    .subst q;exact absurd rfl (h3 _ m).1.1
    .exact⟨kd,m,q.1⟩
   .obtain⟨kd,m,q⟩:=cS hy;rcases q with q|q
    .exact⟨kd,m,q.symm⟩
    .exact nomatch q.2
  obtain⟨kd,m,rfl⟩:=this;exact Option.isSome_iff_exists.mp (c3 _ m rfl)
 .obtain⟨i,hi,hn⟩:=CH hs hj;have q:=h5 i (db hi);rw[hn]at q;simp only[mo,decide_eq_true_eq]at q;refine⟨i,hi,by rw[g.N];exact hn,by rw[g.sc];exact q.1,by rw[jX g];exact q.2⟩
def Gd.comp (g:Gd X G S k E)(hc:G.cm=.calm)(C:aS X scope cl xs (sel.filterMap λi=>S.N[i]?) sel) (E0:XK) (s:Shared) (H:Hp) (fp:List Addr):
  Gd (dB X scope cl (xs++sel.filterMap λi=>S.N[i]?) s H fp E0) G { S with sc:=cD S.sc scope,N:=xs++sel.filterMap λi=>S.N[i]? } k (λ_=>E0) where
 hK:=g.hK
 hT:=g.hT
 sc:=jX g scope
 N:=rfl
 nd:=C.nd
 pass:=cF tM
 hd:=by
  have h:=g.hd;rw[hc]at h⊢;exact h
 xok:=tM
 xst:=g.xst
 room:=g.room
 un:=g.un
 tab:=g.tab
 fns:=g.fns
 fnsU:=g.fnsU
def Gd.B0 (g:Gd X G S k E)(hc:G.cm=.soft)(C:aS X scope cl xs (sel.filterMap λi=>S.N[i]?) sel) (E0:XK) (s:Shared) (H:Hp) (fp:List Addr):
  Gd (dB X scope cl (xs++sel.filterMap λi=>S.N[i]?) s H fp E0) { G with cm:=.mute } { S with sc:=cD S.sc scope,N:=xs++sel.filterMap λi=>S.N[i]? } k (λ_=>E0) where
 hK:=g.hK
 hT:=g.hT
 sc:=jX g scope
 N:=rfl
 nd:=C.nd
 pass:=cF tM
 hd:=True.intro
 xok:=tM
 xst:=g.xst
 room:=g.room
 un:=g.un
 tab:=g.tab
 fns:=λf d h=>by
  have F:=g.fns f d h;rw[hc]at F;exact F.imp λ_ _ _ _ z=>z.elim
 fnsU:=λz=>by cases z
def pO (env:Env):∀ {is:List Nat}{ts:List Expr},xC S is ts=true->(assignEach ts env).length=is.length/\(assignEach ts env).findIdx? (·.1)=none
 | [],[],_=>⟨rfl,rfl⟩
 | [],_::_,h=>by simp[xC]at h
 |_::_,[],h=>by simp[xC]at h
 |i::is,t::ts,h=>by
  cases t<;>simp[xC]at h
  rename_i x p;obtain⟨h1,h2⟩:=pO env h.2;have e:assignEach (.Name x p::ts) env=(false,assign (.Name x p) env)::assignEach ts env:=rfl;rw[e];refine⟨by simp[h1],?_⟩;rw[List.findIdx?_cons];simp[h2]
def tJ (g:Gd X G S k E):∀ {is:List Nat}{ts:List Expr},xC S is ts=true->ES X ts (gl is)
 | [],[],_=>λY s U H vs us Q I r h=>mW Y s U H vs us Q I r ⟨length_eq_zero_iff.mp h.1,by
   have:=h.2;have e:vs=[]:=length_eq_zero_iff.mp h.1;subst e;exact this⟩
 | [],_::_,h=>by simp[xC]at h
 |_::_,[],h=>by simp[xC]at h
 |i::is,t::ts,h=>by
  cases t<;>simp[xC]at h
  rename_i x p;have hl:X.env.scope.names.lookup x=some .local:=by rw[g.sc];exact h.1.2
  have h1:PG X (.Name x p) (gc i):=gp (by rw[g.N];exact g.nd) (by rw[g.N];exact h.1.1) (.inl hl) (.inr hl);have h2:=tJ g h.2;intro Y s U H vs us Q I r q;refine gC h1 h2 rfl Y s U H vs us Q I r ?_;obtain⟨hl,q⟩:=q;cases vs with
  |nil=>simp at hl
  |cons v vs=>exact⟨v,vs,rfl,by simpa using hl,q⟩
def Ab (g:Gd X G S k E)(hc:G.cm=.calm){n kt:Nat}{ts:List Expr}{pt:Pos}(h:xC S (List.range n) ts=true):PG X (.Tuple ts kt pt) (ze G.R.K n (gl (List.range n))):=by
 obtain⟨e1,e2⟩:=pO X.env h;rw[List.length_range]at e1;rw[g.hK];exact lW (g.cm hc) (tJ g h) e1 e2
def Bp {n:Nat}(h:xs.length=n):pG xs=sK n none:=by
 subst h;unfold pG;rw[List.map_const']
end
set_option maxHeartbeats 2000000
variable {r:List Expr}{p:Pos}{tg:Expr}{H1:Hp}{s1:Shared}{R:It->Hp->Prop}{v:Value}{keys:List (Option Expr)}
section
variable {G:Gx}{k:Nat}
def jq {o1 o2:CmpOp}{c:Expr}(h:cJ c=true):lastMarks [o1,o2] [b,c]=false:=by
 show behindInMarks o2 c=false;exact d8 h _
def vI {t:TE}(h:PE X (match r with| []=>b|_=>.BoolOp .And (b::r) p) t):PE X (.BoolOp .And (b::r) p) t:=by
 cases r with
 |nil=>exact yO h
 |cons c r=>exact h
def w6 {t:TE}(h:PE X (match r with| []=>b|_=>.BoolOp .Or (b::r) p) t):PE X (.BoolOp .Or (b::r) p) t:=by
 cases r with
 |nil=>exact yO h
 |cons c r=>exact h
def BN {op:BoolOp}(h:PT X (.BoolOp op l p) t):PW X (.BoolOp op l p) t:=λwhole Y s U H Q I q=>by
 have:=h Y s U H Q I q;exact this
def xK (h:PT X (match r with| []=>b|_=>.BoolOp .And (b::r) p) t):PW X (.BoolOp .And (b::r) p) t:=by
 cases r with
 |nil=>exact AK h
 |cons c r=>exact BN h
def vK (h:PT X (match r with| []=>b|_=>.BoolOp .Or (b::r) p) t):PW X (.BoolOp .Or (b::r) p) t:=by
 cases r with
 |nil=>exact DH h
 |cons c r=>exact BN h
def Be:Ie X (unaryOp .USub) (λx H Q=>match x with| .int i=>Q (.int (-i)) H|_=>False):=by
 intro Y s U H x v Q I r h
 split at h
 .exact(L2.Em Y s U H _ v Q I r ⟨_,rfl,h⟩)
 .exact h.elim
def uC {c:Bool}{CX:tV}{C f:Addr}{fd:FuncData}{ps:List Str}{sp:Sp}{dvs:List V}{ds:List Value}{E:St->XK}{pos:Pos}(M:Ia X.K C f)(F:cz c X.prog X.w X.K X.mg X.base CX k f fd ps sp)(hh:∀ {Y:K2}{U:St}{H:Hp}{s:Shared}{vs:List V}{Q:VK}{E:XK},Inv X Y U H s->sp vs H Q E->vk c X.A.handled H) (hr:bB (k+1) X.A) (hg:Gl X x) (hm:X.mg x=some (.ref C)) (hb:Binds X.K fd ps ds) (hd:Vals dvs ds) (hx:Passes CX X E)
  (hdb:(x ==("__debug__":Str))=false):PE X (.Call (.Name x p) [] [] pos) (vW C sp dvs E Br):=by
 intro Y s U H Q I h;refine bv (bg I hg hm ?_ hdb);exact W.callWith_K0 I.bF M.kp (lB (us:=[]) M F hh hr hb hd hx (Nat.zero_le _) I .nil h.2)
def cI.bV {f:Value->Value->Sem Value}{r:R2}(h:cI X f r):cI X f (λx y H R=>∃ Q,r x y H Q/\∀ z H1,Q z H1->R z H1):=λY s U H x y v u R I rx ry ⟨Q,q,i⟩=>
 ax (h Y s U H x y v u Q I rx ry q) λ_ _ ⟨v,H',J,r,z⟩=>⟨v,H',J,r,i _ _ z⟩
section
open PyProof.Rows
def uk {U:L2.St}{xs:List V}(I1:Inv X Y U H1 s1)(r:RelV (.ref a) v)(hq:ba X.K H1 a xs)(q:R (Fu X.K a) H1):
  wpAny (model X.prog X.w) X.A (pyIter v) (G9 X Y U tg R) X.xe s1:=by
 cases r;obtain⟨its,rv,p,hz⟩:=I1.list hq;refine wpAny_pyIter_list p.isList ?_;refine⟨s1.heap.objs.size,[s1.heap.objs.size],_,_,H1,rfl,I1.kept (t':=s1.toks) λb o e=>ul _ e,uq a _,⟨_,v0 _ rfl,rfl,rfl⟩,λb hb=>?_,q⟩;have e:b=s1.heap.objs.size:=by simpa using hb
 subst e;exact I1.lL (re _) (I1.hok.fresh (re _))
def wk {U:L2.St}{xs:List V}(I1:Inv X Y U H1 s1)(r:RelV (.ref a) v)(hq:aX X.K H1 a xs)(q:R (vo X.K a) H1):
  wpAny (model X.prog X.w) X.A (pyIter v) (G9 X Y U tg R) X.xe s1:=by
 cases r;obtain⟨its,rv,p,hz⟩:=I1.tuple hq;refine wpAny_pyIter_tuple (show s1.heap.IsTuple a its.toArray from p) ?_;refine⟨s1.heap.objs.size,[s1.heap.objs.size],_,_,H1,rfl,I1.kept (t':=s1.toks) λb o e=>ul _ e,cf a _,⟨_,v0 _ rfl,rfl,rfl⟩,λb hb=>?_,q⟩;have e:b=s1.heap.objs.size:=by simpa using hb
 subst e;exact I1.lL (re _) (I1.hok.fresh (re _))
def lx {U:L2.St}{xs:List V}(I1:Inv X Y U H1 s1)(r:RelV (.ref a) v)(hq:aX X.K H1 a xs)(q:R (vo X.K a) H1):
  wpAny (model X.prog X.w) X.A (pyIter v) (DR eY X Y U tg R) X.xe s1:=by
 cases r;obtain⟨its,rv,p,hz⟩:=I1.tuple hq;refine wpAny_pyIter_tuple (show s1.heap.IsTuple a its.toArray from p) ?_;refine⟨s1.heap.objs.size,[s1.heap.objs.size],_,_,H1,rfl,I1.kept (t':=s1.toks) λb o e=>ul _ e,n8 a _,⟨_,v0 _ rfl,rfl,rfl⟩,λb hb=>?_,q⟩;have e:b=s1.heap.objs.size:=by simpa using hb
 subst e;exact I1.lL (re _) (I1.hok.fresh (re _))
end
def Ea {x:V}{Q:Bool->Hp->Prop}(h:Ff K x H Q):∃ k,BJ K x H k/\Q k H:=by
 unfold Ff at h
 split at h
 .exact⟨_,rfl,h⟩
 .exact h
abbrev Ij:List Str->List V->List (V×V)
 |k::ks,x::xs=>(.str k,x)::Ij ks xs
 |_,_=>[]
def xg:∀ {ks:List Str}{xs:List V},Ij ks xs=(Fx ks xs).map (λkv=>(kV kv.1,kv.2))
 | [],_=>rfl
 |_::_,[]=>rfl
 |k::ks,x::xs=>by
  show(V.str k,x)::Ij ks xs=(kV (.inr k),x)::(Fx ks xs).map _;rw[xg]
  rfl
def su:∀ {ks:List Str}{xs:List V},(Fx ks xs).length<=ks.length
 | [],_=>re _
 |_::_,[]=>Nat.zero_le _
 |k::ks,x::xs=>Nat.succ_le_succ su
def gN {k:Str}{ks:List Str}(h:lS (k::ks) keys=true):∃ j p r,keys=some (.Constant (.str k) j p)::r/\lS ks r=true:=by
 unfold lS at h
 split at h
 .rename_i e;cases e
 .rename_i k' ks' x j p r e
  injection e with e1 e2
  subst e1 e2;simp only[mo,decide_eq_true_eq]at h;obtain⟨rfl,h⟩:=h;exact⟨_,_,_,rfl,h⟩
 .cases h
def j7 (h:lS [] keys=true):keys=[]:=by
 cases keys with
 |nil=>rfl
 |cons a r=>cases(show false=true from h)
def pA:∀ {ks:List Str}{keys:List (Option Expr)},lS ks keys=true->keys.length=ks.length
 | [],keys,h=>by rw[j7 h];rfl
 |k::ks,keys,h=>by
  obtain⟨j,p,r,rfl,h2⟩:=gN h;rw[length_cons,length_cons,pA h2]
def oE:∀ {ks:List Str}{keys:List (Option Expr)},lS ks keys=true->keys.all (·.isSome)=true
 | [],keys,h=>by rw[j7 h];rfl
 |k::ks,keys,h=>by
  obtain⟨j,p,r,rfl,h2⟩:=gN h;rw[all_cons,oE h2]
  rfl
def wZ {S:Sn}:∀ {x:ft}{e:List Expr},iU S x e=true->e.length=x.len
 | .nil,[],_=>rfl
 | .nil,_::_,h=>by cases(show false=true from h)
 | .cons x xs,[],h=>by cases(show false=true from h)
 | .cons x xs,e::es,h=>by
  have h:(mE S x e&&notStar e&&iU S xs es)=true:=h;simp only[mo]at h;exact congrArg Nat.succ (wZ h.2)
mutual
theorem sE:∀ (x:Ex){G:Gx}{X:Cx}{S:Sn}{E:St->XK},Gd X G S k E->∀ {e:Expr},mE S x e=true->PE X e (λU H Q=>wE G x U H Q (E U))
 | .v i,G,X,S,E,g,e,h=>by
  sleep 1
  simp only[mo,decide_eq_true_eq]at h;obtain⟨h1,h2⟩:=h;obtain⟨v1,v2,v3⟩:=g.Hu h2;refine PE.imp (Dr (i:=i) (by rw[g.N];exact h1) v1 v2 v3) λU H Q q=>?_
  conv at q=>whnf
  split at q
  .rename_i e;exact⟨_,e,q⟩
  .exact q.elim
 | .int i,G,X,S,E,g,e,h=>by
  sleep 2
  simp only[decide_eq_true_eq]at h;subst h;exact El
 | .bl i,G,X,S,E,g,e,h=>by
  sleep 2
  simp only[decide_eq_true_eq]at h;subst h;exact HS
 | .non,G,X,S,E,g,e,h=>by
  sleep 2
  exact DN
 | .str i,G,X,S,E,g,e,h=>by
  sleep 2
  simp only[decide_eq_true_eq]at h;subst h;exact vS
 | .gl x,G,X,S,E,g,e,h=>by
  sleep 1
  simp only[mo,decide_eq_true_eq]at h;obtain⟨rfl,h2⟩:=h;obtain⟨hg,hd⟩:=g.glob h2;intro Y s U H Q I q
  conv at q=>whnf
  split at q
  .rename_i v e;obtain⟨u,hm,r⟩:=g.tab.gl _ v e;exact nj hg hm r hd Y s U H Q I q
  .exact q.elim
 | .bin op a b,G,X,S,E,g,e,h=>by
  sleep 1
  simp only[mo,decide_eq_true_eq]at h;obtain⟨⟨rfl,ha⟩,hb⟩:=h;exact G7 (g.bin op) (sE a g ha) (sE b g hb)
 | .neg a,G,X,S,E,g,e,h=>by
  sleep 2
  exact Ge Be (sE a g h)
 | .not a,G,X,S,E,g,e,h=>by
  sleep 2
  refine PE.imp (ED (PE.bV (sE a g h))) λU H Q q=>⟨_,q,λx H1 z=>?_⟩
  split at z
  .exact⟨_,rfl,z⟩
  .exact z.elim
 | .and a b,G,X,S,E,g,e,h=>by
  sleep 3
  simp only[mo]at h;refine PE.imp (Ek (PE.bV (sE a g h.1)) (vI (sE b g h.2))) λU H Q q=>⟨_,q,λx H1 z=>?_⟩
  split at z
  .rw[cP]at z;exact⟨_,rfl,z⟩
  .exact z.elim
 | .or a b,G,X,S,E,g,e,h=>by
  sleep 3
  simp only[mo]at h;refine PE.imp (Hc (PE.bV (sE a g h.1)) (w6 (sE b g h.2))) λU H Q q=>⟨_,q,λx H1 z=>?_⟩
  split at z
  .rw[cP]at z;exact⟨_,rfl,z⟩
  .exact z.elim
 | .cmp op a b,G,X,S,E,g,e,h=>by
  sleep 3
  simp only[mo,decide_eq_true_eq]at h;obtain⟨⟨⟨rfl,ha⟩,hb⟩,hn⟩:=h;exact AU (g.cmp op) (sE a g ha) (sE b g hb) (d8 hn _)
 | .cmp2 o1 o2 a b c,G,X,S,E,g,e,h=>by
  sleep 3
  simp only[mo,decide_eq_true_eq]at h;obtain⟨⟨⟨⟨⟨rfl,rfl⟩,ha⟩,hb⟩,hc⟩,hn⟩:=h;refine PE.imp (xN (cI.bV (g.cmp o1)) (g.cmp o2) (PE.bV (sE a g ha)) (PE.bV (sE b g hb)) (sE c g hc) (jq hn)) λU H Q q=>⟨_,q,λx H1 q1=>⟨_,q1,λy H2 q2=>⟨_,q2,λz H3 q3=>?_⟩⟩⟩
  split at q3
  .rw[cP]at q3;exact⟨_,rfl,q3⟩
  .exact q3.elim
 | .cmp3 o1 o2 o3 a b c d,G,X,S,E,g,e,h=>by cases(show false=true from h)
 | .ife c a b,G,X,S,E,g,e,h=>by
  sleep 1
  simp only[mo]at h;exact PE.imp (w9 (PT.bV (sT c g h.1.1)) (sE a g h.1.2) (sE b g h.2)) λU H Q q=>⟨_,q,λk H1 z=>by rwa [cP]at z⟩
 | .tup es,G,X,S,E,g,e,h=>by
  sleep 1
  refine PE.imp (xq (PA.bV (vt es g h))) λU H Q q=>⟨_,q,λx H1 z=>by unfold iK at z;exact⟨jB (by have:=z.1;omega),z.2⟩⟩
 | .lst es,G,X,S,E,g,e,h=>by
  sleep 1
  refine PE.imp (Dc (PA.bV (vt es g h))) λU H Q q=>⟨_,q,λx H1 z=>by unfold Bs at z;exact⟨jB (by have:=z.1;omega),z.2⟩⟩
 | .ix a i,G,X,S,E,g,e,h=>by
  sleep 1
  simp only[mo]at h;have hr:GU X (qk G.R.K):=g.hK▸rC g.un;exact Ha hr (sE a g h.1.1) (sE i g h.1.2) (rG h.2)
 | .sl a lo hi,G,X,S,E,g,e,h=>by
  sleep 3
  simp only[mo]at h;have hr:HW X (FG G.R.K):=g.hK▸Dl;exact xM hr (sE a g h.1.1) (sO lo g h.1.2) (sO hi g h.2)
 | .fld a f,G,X,S,E,g,e,h=>by
  sleep 1
  simp only[mo,decide_eq_true_eq]at h;obtain⟨⟨ha,rfl⟩,hn⟩:=h;intro Y s U H Q I q;have q':wE G a U H (λx H1=>nW G f x H1 Q) (E U):=q;refine zi (bJ hn _ _ _) (ax (sE a g ha Y s U H _ I q') λu s1 ⟨x,H1,I1,rx,qf⟩=>?_);unfold nW at qf;obtain⟨a,i,fs,v,ex,ea,hna,l,q⟩:=qf;subst ex;obtain rfl:u=Value.ref a:=rx;have n:=g.tab.na i f hna;rcases ea with⟨ho,dx,ea⟩|⟨ho,dx,fr,ea⟩
  .exact qA I1 ea (g.tab.oc i ho).1 n l λu' s' J rv=>⟨v,H1,J,rv,q⟩
  .exact ud I1 ea (g.tab.xc i ho).1 n l λu' s' J rv=>⟨v,H1,J,rv,q⟩
 | .call f es,G,X,S,E,g,e,h=>by
  sleep 3
  rename_i es' pos _ xn p1 _;simp only[mo,decide_eq_true_eq]at h;obtain⟨⟨h1,h2⟩,h3⟩:=h;obtain⟨hg,hdb⟩:=g.glob h1;obtain⟨hm,hk,d,hd⟩:=g.tab.gfn _ _ (g.hT▸h2);obtain⟨fd,F,B⟩:=(g.fns f d hd).fact;obtain⟨ds,hb,hv⟩:∃ ds,Binds X.K fd d.ps ds/\Vals (dflt G f es.len) ds:=by
   unfold dflt;rw[hd];exact B _
  intro Y s U H Q I q;obtain⟨hc,q⟩:=(show G.cm=G.cm/\wEs G es U H (λvs H1=>G.zb f (vs++dflt G f es.len) H1 Q (E U)) (E U) from q);have hr:bB k X.A:=g.room.mono (Nat.le_succ _);cases es' with
  |nil=>
   cases es with
   |nil=>exact yD F g.hh hr hg hm hk hb hv g.pass hdb Y s U H Q I q
   |cons _ _=>cases(show false=true from h3)
  |cons e0 er=>
   have PAs:=vt es g h3;obtain⟨ns,x0,xr,rfl,h4⟩:=bt h3;exact AJ F g.hh hr hg hm hk hb hv g.pass PAs hdb (ab ns) (aJ h4 _ _) Y s U H Q I q
 | .meth a m es,G,X,S,E,g,e,h=>by
  sleep 3
  rename_i es' pos _ a' m' apos _;simp only[mo,decide_eq_true_eq]at h;obtain⟨⟨⟨⟨⟨ha,rfl⟩,h3⟩,h4⟩,h5⟩,h6⟩:=h;intro Y s U H Q I q;obtain⟨hc,q⟩:=(show G.cm=G.cm/\_ from q);refine wK (n:=es.len+1) g hc (sE a g ha) (vt es g h3) (λz U H R hr=>?_) (λe r z=>?_) (λe r z=>?_) (lh h4 (sX h3 h6 _ _) h5) Y s U H Q I q
  .subst z;cases es with
   |nil=>exact hr
   |cons _ _=>cases(show false=true from h3)
  .subst z;exact ab (bt h3).1
  .subst z;have PAs:=vt es g h3;obtain⟨ns,x0,xr,rfl,h4⟩:=bt h3;exact aJ h4 _ _
 | .lm m a es,G,X,S,E,g,e,h=>by
  sleep 3
  rename_i es' pos _ a' m' apos _;simp only[mo,decide_eq_true_eq]at h;obtain⟨⟨⟨⟨⟨ha,rfl⟩,h3⟩,h4⟩,h5⟩,h6⟩:=h;cases es' with
  |nil=>
   cases es with
   |nil=>exact PE.imp (Fs PySem.F.plainAttrs_list (tY m) (Cz m) (B6 m) (PE.bV (sE a g ha)) (bJ h4 _ _ _) h5) λU H Q q=>⟨_,q,λx H1 z=>by
     obtain⟨p,xs0,ex,hp,q⟩:=z;subst ex;obtain⟨xs,h1,h2⟩:=q;exact⟨.inl ⟨rfl,xs0,ba.of hp⟩,p,xs,rfl,h1,h2⟩⟩
   |cons _ _=>cases(show false=true from h3)
  |cons e0 er=>
   have PAs:=vt es g h3;obtain⟨ns,x0,xr,rfl,h7⟩:=bt h3;exact PE.imp (G4 PySem.F.plainAttrs_list (tY m) (Cz m) (B6 m) (PE.bV (sE a g ha)) (PA.bV PAs) (bJ h4 _ _ _) (Fh h3 h6 _ _) h5 (ab ns) (aJ h7 _ _)) λU H Q q=>⟨_,q,λx H1 z=>by
     obtain⟨p,xs0,ex,hp,q⟩:=z;subst ex;exact⟨.inl ⟨rfl,xs0,ba.of hp⟩,_,q,λvs H2 ⟨xs,h1,h2⟩=>⟨p,xs,rfl,h1,h2⟩⟩⟩
 | .dget a k d,G,X,S,E,g,e,h=>by cases(show false=true from h)
 | .rev a b,G,X,S,E,g,e,h=>by cases(show false=true from h)
 | .dupd a b,G,X,S,E,g,e,h=>by cases(show false=true from h)
 | .lix a b,G,X,S,E,g,e,h=>by cases(show false=true from h)
 | .make c es,G,X,S,E,g,e,h=>by
  sleep 3
  rename_i es' pos _ xn p1 _;simp only[mo,decide_eq_true_eq]at h;obtain⟨⟨h1,h2⟩,h3⟩:=h;obtain⟨hg,hdb⟩:=g.glob h1;have hm:=g.tab.gcl _ _ (g.hT▸h2);intro Y s U H Q I q
  conv at q=>whnf
  obtain⟨hc,q⟩:=q
  split at q
  .obtain⟨h0,q⟩:=q;cases es' with
   |nil=>
    cases es with
    |nil=>exact absurd q.1 (by decide)
    |cons _ _=>cases(show false=true from h3)
   |cons e0 er=>
    have PAs:=vt es g h3;obtain⟨ns,x0,xr,rfl,h4⟩:=bt h3;exact wq (g.tab.ini0 c h0) hg hm PAs hdb (ab ns) (aJ h4 _ _) Y s U H Q I q
  .rename_i f hf;obtain⟨⟨d,hd⟩,hmk⟩:=g.tab.ini c f hf;obtain⟨fd,F,B⟩:=(g.fns f d hd).fact;obtain⟨ds,hb,hv⟩:∃ ds,Binds X.K fd d.ps ds/\Vals (dflt G f (es.len+1)) ds:=by
    unfold dflt;rw[hd];exact B _
   have hr:=g.room
   split at q
   .rename_i hx;rw[if_pos hx]at hmk;cases es' with
    |nil=>
     cases es with
     |nil=>exact uC hmk F g.hh hr hg hm hb hv g.pass hdb Y s U H Q I q
     |cons _ _=>cases(show false=true from h3)
    |cons e0 er=>
     have PAs:=vt es g h3;obtain⟨ns,x0,xr,rfl,h4⟩:=bt h3;exact xH hmk F g.hh hr hg hm hb hv g.pass PAs hdb (ab ns) (aJ h4 _ _) Y s U H Q I q
   .rename_i hx;rw[if_neg hx]at hmk;cases es' with
    |nil=>
     cases es with
     |nil=>exact yM hmk F g.hh hr hg hm hb hv g.pass hdb Y s U H Q I q
     |cons _ _=>cases(show false=true from h3)
    |cons e0 er=>
     have PAs:=vt es g h3;obtain⟨ns,x0,xr,rfl,h4⟩:=bt h3;exact zB hmk F g.hh hr hg hm hb hv g.pass PAs hdb (ab ns) (aJ h4 _ _) Y s U H Q I q
 | .bini es,G,X,S,E,g,e,h=>by
  sleep 4
  rename_i es' pos _ mm p2 _ xn p1 _;simp only[mo,decide_eq_true_eq]at h;obtain⟨⟨⟨⟨⟨h1,rfl⟩,h2⟩,h3⟩,h4⟩,h5⟩:=h;obtain⟨hg,hdb⟩:=g.glob h1;obtain⟨B,hm,hB⟩:=g.tab.gbi _ (g.hT▸h2);cases es' with
  |nil=>
   cases es with
   |nil=>cases h4
   |cons _ _=>cases(show false=true from h3)
  |cons e0 er=>
   have PAs:=vt es g h3;obtain⟨ns,x0,xr,rfl,h7⟩:=bt h3;refine PE.imp (Fb hB hg hm (PA.bV PAs) hdb (ab ns) (aJ h7 _ _) (lh (o:=.Name _ _) rfl (sX h3 (by rw[h4];decide) _ _) h5)) λU H Q q=>⟨_,q,λvs H1 z=>?_⟩
   obtain⟨a,i,dx,fs,fr,v,ev,ea,hi,q⟩:=z;exact⟨a,_,dx,fs,fr,v,ev,ea,(g.tab.xc i hi).1,q⟩
 | .cini c es,G,X,S,E,g,e,h=>by cases(show false=true from h)
 | .bf b es,G,X,S,E,g,e,h=>by
  sleep 3
  rename_i es' pos _ xn p1 _;simp only[mo,decide_eq_true_eq]at h;obtain⟨⟨⟨⟨h1,rfl⟩,h2⟩,h3⟩,h4⟩:=h;obtain⟨hg,hdb⟩:=g.glob h1;obtain⟨hm,hn⟩:=g.tab.gbl _ (g.hT▸h2);cases es' with
  |nil=>
   cases es with
   |nil=>exact absurd h4 (by decide)
   |cons _ _=>cases(show false=true from h3)
  |cons e0 er=>
   have PAs:=vt es g h3;obtain⟨ns,x0,xr,rfl,h7⟩:=bt h3;have hb:=Bj b;have hk:=GF g b;have key:∀ {v:Value},wX b=v->(∃ i,v=.builtin i)\/(∃ i,v=.type i):=by
    intro v hv;subst hv;cases b<;>first|exact .inl ⟨_,rfl⟩|exact .inr ⟨_,rfl⟩
   rcases key rfl with⟨i,hi⟩|⟨i,hi⟩
   .rw[hi]at hb hk;exact jk hk hg hm hb PAs hn hdb (ab ns) (aJ h7 _ _)
   .rw[hi]at hb hk;exact tZ hk hg hm hb PAs hn hdb (ab ns) (aJ h7 _ _)
 | .isi a c,G,X,S,E,g,e,h=>by
  sleep 4
  rename_i pos _ xn p1 _ _ a' c';simp only[mo,decide_eq_true_eq]at h;obtain⟨⟨⟨⟨h1,rfl⟩,h2⟩,h3⟩,h4⟩:=h;obtain⟨hg,hdb⟩:=g.glob h1;obtain⟨hm,hn⟩:=g.tab.gbl _ (g.hT▸h2);have n1:notStar a'=true:=by
   cases a'<;>first|rfl|(cases a<;>cases(show false=true from h3))
  have n2:notStar c'=true:=by
   cases c'<;>first|rfl|(cases c<;>simp[AV]at h4)
  refine PE.imp (jk (CZ g c) hg hm yy (eK (PE.bV (sE a g h3)) (eK (HG g h4) cy n2) n1) hn hdb (ab n1) ?_) λU H Q q=>⟨_,q,λx H1 z=>⟨x,rfl,z⟩⟩
  rw[ab n2]
  rfl
 | .lc elt sel it,G,X,S,E,g,e,h=>by
  sleep 2
  split at h
  iterate 3 (split at h;rotate_left;cases h)
  simp only[mo]at h;obtain⟨⟨⟨h1,h2⟩,h3⟩,h4⟩:=h;intro Y s U H Q I q;rcases yi (show Ib G.cm (wI G it U H (λJ H1=>vm (λσ' H' Q'=>wE G elt σ' H' Q' (E U)) J (none::dE U sel) H1 Q) (E U)) (IQ G it U H (λJ H1=>vm (λσ' H' Q'=>wE { G with cm:=.mute } elt σ' H' Q' (E U)) J (none::dE U sel) H1 Q) (E U)) from q) with⟨hc,q⟩|⟨hc,q⟩
  .rw[mn]at q;obtain⟨cl,C⟩:=a7 g I.ok h1;exact pj (ok:=Calm) (λ_=>g.cm hc) (g.cx U) C (sI it g h2) (λs H fp=>sE elt (g.comp hc C (E U) s H fp) h3) (aQ h4 _) Y s H Q I q
  .cases it with
   |seq a=>
    rw[mn]at q;obtain⟨cl,C⟩:=a7 g I.ok h1;have sx:eY X:=by
     have hd:=g.hd;rw[hc]at hd;exact hd
    refine pj (ok:=eY) (wi:=λU H R=>wE G a U H (λx H1=>match x with| .ref p=>(∃ xs,aX G.R.K H1 p xs)/\R (vo G.R.K p) H1|_=>False) (E U)) (λI'=>sx.now I') (g.cx U) C (λY s U H R I q=>?_) (λs H fp=>sE elt (g.B0 hc C (E U) s H fp) h3) (aQ h4 _) Y s H Q I q;have q':wE G a U H (λx H1=>match x with| .ref p=>(∃ xs,aX G.R.K H1 p xs)/\R (vo G.R.K p) H1|_=>False) (E U):=q;rw[g.hK]at q';refine ax (sE a g h2 Y s U H _ I q') λv s1 ⟨x,H1,I1,r1,z⟩=>?_
    dsimp only at z
    split at z
    .obtain⟨⟨xs,hx⟩,z⟩:=z;exact lx I1 r1 hx z
    .exact z.elim
   |_=>exact q.elim
 | .lci elt c sel it,G,X,S,E,g,e,h=>by
  sleep 2
  split at h
  iterate 3 (split at h;rotate_left;cases h)
  simp only[mo]at h;obtain⟨⟨⟨⟨h1,h2⟩,h3⟩,h5⟩,h4⟩:=h;intro Y s U H Q I q;obtain⟨hc,q⟩:=(show G.cm=.calm/\wI G it U H (λJ H1=>Fc (λσ' H' Q'=>wT G c σ' H' Q' (E U)) (λσ' H' Q'=>wE G elt σ' H' Q' (E U)) J (none::dE U sel) H1 Q) (E U) from q);rw[yf]at q;obtain⟨cl,C⟩:=a7 g I.ok h1;exact k9 (ok:=Calm) (λ_=>g.cm hc) (g.cx U) C (sI it g h2) (λs H fp=>lY C) (λs H fp=>tF (sT c (g.comp hc C (E U) s H fp) h5)) (λs H fp=>sE elt (g.comp hc C (E U) s H fp) h3) (aQ h4 _) Y s H Q I q
 | .lct elt n sel it,G,X,S,E,g,e,h=>by cases(show false=true from h)
 | .lcu elt c n sel it,G,X,S,E,g,e,h=>by cases(show false=true from h)
 | .dnew,G,X,S,E,g,e,h=>by cases(show false=true from h)
 | .sm m a b,G,X,S,E,g,e,h=>by cases(show false=true from h)
 | .up a,G,X,S,E,g,e,h=>by cases(show false=true from h)
 | .isiT a cs,G,X,S,E,g,e,h=>by
  sleep 5
  rename_i pos _ xn p1 _ _ a' _ es' kk pos2;simp only[mo,decide_eq_true_eq]at h;obtain⟨⟨⟨⟨⟨h1,rfl⟩,h2⟩,h3⟩,h4⟩,h5⟩:=h;obtain⟨hg,hdb⟩:=g.glob h1;obtain⟨hm,hn⟩:=g.tab.gbl _ (g.hT▸h2);have n1:notStar a'=true:=by
   cases a'<;>first|rfl|(cases a<;>cases(show false=true from h3))
  refine PE.imp (jk (zr g cs) hg hm yy (eK (PE.bV (sE a g h3)) (eK (xq (wD g h4)) cy rfl) n1) hn hdb (ab n1) ?_) λU H Q q=>⟨_,q,λx H1 z=>⟨?_,λp hp=>⟨x,p,rfl,?_,z p hp⟩⟩⟩
  .rw[ab (show notStar (.Tuple es' kk pos2)=true from rfl)]
   rfl
  .exact jB (by rw[ci];omega)
  .rw[av,List.map_map]
   rfl
 | .mk0 c,G,X,S,E,g,e,h=>by
  sleep 4
  simp only[mo,decide_eq_true_eq]at h;obtain⟨⟨h1,h2⟩,h3⟩:=h;obtain⟨hg,hdb⟩:=g.glob h1;refine PE.imp (vM (g.tab.inip c (g.hT▸h3)) hg (g.tab.gcl _ _ (g.hT▸h2)) hdb) λU H Q q=>?_
  have q':xR (G.R.cad c) H Q:=q;unfold xR at q';exact q'
 | .vals tp a,G,X,S,E,g,e,h=>by
  sleep 8
  simp only[mo,decide_eq_true_eq]at h;obtain⟨⟨⟨⟨⟨⟨h1,rfl⟩,h2⟩,h3⟩,rfl⟩,h4⟩,h5⟩:=h;obtain⟨hg,hdb⟩:=g.glob h1;obtain⟨hm,hn⟩:=g.tab.gbl _ (g.hT▸h2);intro Y s U H Q I q;obtain⟨hc,q⟩:=(show G.cm=.calm/\wE G a U H (λx H1=>pd tp x H1 Q) (E U) from q);refine AF tp (g.cm hc) hg hm (PE.bV (sE a g h3)) (bJ h4 _ _ _) h5 Y s U H Q I ⟨_,q,λx H1 z=>?_⟩;unfold pd at z;exact z
 | .disp ks es,G,X,S,E,g,e,h=>by
  sleep 1
  simp only[mo,decide_eq_true_eq]at h;obtain⟨⟨⟨⟨h1,h2⟩,h3⟩,h4⟩,h5⟩:=h;intro Y s U H Q I q;have hk:=pA h1;have hv:=wZ h2;refine zY (Kj es g h1 h2 h3) (oE h1) nofun (λz=>by rw[z]at hk;simp at hk;omega) nofun Y s U H Q I λp hp=>?_
  refine⟨_,q p hp,λxs H2 hl z=>?_⟩;unfold tH at z;exact⟨z.1,Fx ks xs,xg,by have:=su (ks:=ks) (xs:=xs);omega,z.2⟩
 | .dzip a b,G,X,S,E,g,e,h=>by
  sleep 8
  simp only[mo,decide_eq_true_eq]at h;obtain⟨⟨⟨⟨⟨⟨⟨⟨⟨h1,rfl⟩,h2⟩,h3⟩,rfl⟩,h4⟩,h5⟩,h6⟩,n1⟩,n2⟩:=h;obtain⟨hg,hdb⟩:=g.glob h1;obtain⟨hm,hn⟩:=g.tab.gbl _ (g.hT▸h2);obtain⟨hg',hdb'⟩:=g.glob h3;obtain⟨hm',hn'⟩:=g.tab.gbl _ (g.hT▸h4);intro Y s U H Q I q;obtain⟨hc,q⟩:=(show G.cm=.calm/\wE G a U H (λx H1=>wE G b U H1 (λy H2=>Gw G.R.K x y H2 Q) (E U)) (E U) from q);refine zU (g.cm hc) hg hm hg' hm' (eK (PE.bV (sE a g h5)) (eK (PE.bV (sE b g h6)) cy n2) n1) (ab n1) (by rw[ab n2];rfl) Y s U H Q I ⟨_,q,λx H1 z=>⟨_,z,λy H2 z=>?_⟩⟩;unfold Gw at z;exact⟨_,_,rfl,g.hK▸z⟩
termination_by structural x=>x
theorem sI:∀ (x:zF){G:Gx}{X:Cx}{S:Sn}{E:St->XK},Gd X G S k E->∀ {t e:Expr},mI S x t e=true->PI X t e (λU H R=>wI G x U H R (E U))
 | .rng1 a,G,X,S,E,g,t,e,h=>by
  sleep 4
  simp only[mo,decide_eq_true_eq]at h;obtain⟨⟨⟨⟨h1,rfl⟩,h2⟩,h3⟩,n1⟩:=h;obtain⟨hg,hdb⟩:=g.glob h1;obtain⟨hm,hn⟩:=g.tab.gbl _ (g.hT▸h2);intro Y s U H R I q;refine ug hg hm (eK (PE.bV (sE a g h3)) cy n1) (ab n1) Y s U H R I ⟨_,q,λx H1 z=>?_⟩
  split at z
  .exact⟨_,rfl,z.1,z.2.1,z.2.2⟩
  .exact z.elim
 | .rng2 a b,G,X,S,E,g,t,e,h=>by cases(show false=true from h)
 | .rng3 a b c,G,X,S,E,g,t,e,h=>by
  sleep 4
  simp only[mo,decide_eq_true_eq]at h;obtain⟨⟨⟨⟨⟨⟨⟨⟨h1,rfl⟩,h2⟩,h3⟩,h4⟩,h5⟩,n1⟩,n2⟩,n3⟩:=h;obtain⟨hg,hdb⟩:=g.glob h1;obtain⟨hm,hn⟩:=g.tab.gbl _ (g.hT▸h2);intro Y s U H R I q;refine uK hg hm (eK (PE.bV (sE a g h3)) (eK (PE.bV (sE b g h4)) (eK (PE.bV (sE c g h5)) cy n3) n2) n1) (by rw[ab n1,ab n2,ab n3];rfl) (by rw[ab n2,ab n3];rfl) Y s U H R I ⟨_,q,λx H1 z=>⟨_,z,λy H2 z=>⟨_,z,λw H3 z=>?_⟩⟩⟩
  split at z
  .obtain⟨rfl,z1,z2⟩:=z;exact⟨_,_,rfl,z1,z2⟩
  .exact z.elim
 | .enm a,G,X,S,E,g,t,e,h=>by
  sleep 4
  simp only[mo,decide_eq_true_eq]at h;obtain⟨⟨⟨⟨⟨h1,rfl⟩,h2⟩,h3⟩,n1⟩,h5⟩:=h;obtain⟨hg,hdb⟩:=g.glob h1;obtain⟨hm,hn⟩:=g.tab.gbl _ (g.hT▸h2)
  split at h5
  .intro Y s U H R I q;refine BB hg hm (eK (PE.bV (sE a g h3)) cy n1) (ab n1) Y s U H R I ⟨_,q,λx H1 z=>?_⟩
   split at z
   .unfold BF at z;exact⟨_,rfl,z.1,z.2⟩
   .exact z.elim
  .cases h5
 | .enf a,G,X,S,E,g,t,e,h=>by
  sleep 4
  simp only[mo,decide_eq_true_eq]at h;obtain⟨⟨⟨⟨⟨h1,rfl⟩,h2⟩,h3⟩,n1⟩,h5⟩:=h;obtain⟨hg,hdb⟩:=g.glob h1;obtain⟨hm,hn⟩:=g.tab.gbl _ (g.hT▸h2)
  split at h5
  .intro Y s U H R I q;refine AS hg hm (eK (PE.bV (sE a g h3)) cy n1) (ab n1) Y s U H R I ⟨_,q,λx H1 z=>?_⟩
   split at z
   .unfold BC at z;exact⟨_,rfl,g.hK▸z⟩
   .exact z.elim
  .cases h5
 | .seq a,G,X,S,E,g,t,e,h=>by
  conv at h=>lhs;whnf
  intro Y s U H R I q;have q':wE G a U H (λx H1=>match x with| .ref p=>qt G.R.K p H1 R| .str z=>R (Fz z) H1|_=>False) (E U):=q;rw[g.hK]at q';refine ax (sE a g h Y s U H _ I q') λv s1 ⟨x,H1,I1,r1,z⟩=>?_
  dsimp only at z
  split at z
  .unfold qt at z;rcases z with⟨⟨xs,hx⟩,z⟩|⟨⟨xs,hx⟩,z⟩|z
   .exact uk I1 r1 hx z
   .exact wk I1 r1 hx z
   .exact z.elim
  .exact vF I1 r1 z
  .exact z.elim
 | .zip a b,G,X,S,E,g,t,e,h=>by
  sleep 4
  simp only[mo,decide_eq_true_eq]at h;obtain⟨⟨⟨⟨⟨⟨⟨h1,rfl⟩,h2⟩,h3⟩,h4⟩,n1⟩,n2⟩,h5⟩:=h;obtain⟨hg,hdb⟩:=g.glob h1;obtain⟨hm,hn⟩:=g.tab.gbl _ (g.hT▸h2)
  split at h5
  .intro Y s U H R I q;refine DE hg hm (eK (PE.bV (sE a g h3)) (eK (PE.bV (sE b g h4)) cy n2) n1) (ab n1) (by rw[ab n2];rfl) Y s U H R I ⟨_,q,λx H1 z=>⟨_,z,λy H2 z=>?_⟩⟩;unfold Ac at z;exact⟨_,_,rfl,g.hK▸z⟩
  .cases h5
 | .zip3 a b c,G,X,S,E,g,t,e,h=>by cases(show false=true from h)
termination_by structural x=>x
theorem sO:∀ (x:Iq){G:Gx}{X:Cx}{S:Sn}{E:St->XK},Gd X G S k E->∀ {e:Option Expr},mO S x e=true->PO X e (λU H Q=>wO G x U H Q (E U))
 | .no,G,X,S,E,g,none,h=>zL
 | .no,G,X,S,E,g,some _,h=>by cases(show false=true from h)
 | .yes x,G,X,S,E,g,none,h=>by cases(show false=true from h)
 | .yes x,G,X,S,E,g,some e,h=>by
  conv at h=>lhs;whnf
  intro Y s U H Q I q;refine Ag (PE.bV (sE x g h)) Y s U H Q I ⟨_,q,λy H1 z=>?_⟩
  split at z
  .exact⟨_,rfl,z⟩
  .exact z.elim
termination_by structural x=>x
theorem sT:∀ (x:Tx){G:Gx}{X:Cx}{S:Sn}{E:St->XK},Gd X G S k E->∀ {e:Expr},mT S x e=true->PT X e (λU H Q=>wT G x U H Q (E U))
 | .not a,G,X,S,E,g,e,h=>by
  sleep 2
  exact EW (sT a g h)
 | .and a b,G,X,S,E,g,e,h=>by
  sleep 3
  simp only[mo]at h;exact PT.imp (DI (PT.bV (sT a g h.1)) (xK (sT b g h.2))).pt λU H Q q=>⟨_,q,λk H1 z=>by rwa [cP]at z⟩
 | .or a b,G,X,S,E,g,e,h=>by
  sleep 3
  simp only[mo]at h;exact PT.imp (Hd (PT.bV (sT a g h.1)) (vK (sT b g h.2))).pt λU H Q q=>⟨_,q,λk H1 z=>by rwa [cP]at z⟩
 | .cmp op a b,G,X,S,E,g,e,h=>by
  sleep 3
  simp only[mo,decide_eq_true_eq]at h;obtain⟨⟨⟨rfl,ha⟩,hb⟩,hn⟩:=h;refine PT.imp (zI (cI.bV (g.cmp op)) (PE.bV (sE a g ha)) (PE.bV (sE b g hb)) (d8 hn _)) λU H Q q=>⟨_,q,λx H1 q1=>⟨_,q1,λy H2 q2=>⟨_,q2,λz H3 q3=>?_⟩⟩⟩
  split at q3
  .exact⟨_,rfl,q3⟩
  .exact q3.elim
 | .cmp2 o1 o2 a b c,G,X,S,E,g,e,h=>by
  sleep 3
  simp only[mo,decide_eq_true_eq]at h;obtain⟨⟨⟨⟨⟨rfl,rfl⟩,ha⟩,hb⟩,hc⟩,hn⟩:=h;refine PT.imp (xa (cI.bV (g.cmp o1)) (cI.bV (g.cmp o2)) (PE.bV (sE a g ha)) (PE.bV (sE b g hb)) (PE.bV (sE c g hc)) (jq hn)) λU H Q q=>⟨_,q,λx H1 q1=>⟨_,q1,λy H2 q2=>⟨_,q2,λz H3 q3=>?_⟩⟩⟩
  split at q3
  .refine⟨_,rfl,?_⟩;rw[cP]at q3
   split at q3
   .rename_i hk;rw[if_pos hk];refine⟨_,q3,λw H4 q4=>⟨_,q4,λz H5 q5=>?_⟩⟩
    split at q5
    .exact⟨_,rfl,q5⟩
    .exact q5.elim
   .rename_i hk;rw[if_neg hk];exact⟨_,rfl,q3⟩
  .exact q3.elim
 | .val x,G,X,S,E,g,e,h=>by
  have h:(mE S x e&&plainT e)=true:=h;simp only[mo]at h;refine PT.imp (yj (PE.bV (sE x g h.1)) (plainT_ok h.2 _)) λU H Q q=>⟨_,q,λy H1 z=>?_⟩
  exact g.hK▸Ea z
termination_by structural x=>x
theorem Kj:∀ (x:ft){G:Gx}{X:Cx}{S:Sn}{E:St->XK},Gd X G S k E->∀ {ks:List Str}{keys:List (Option Expr)}{e:List Expr}{pos:Pos},lS ks keys=true->iU S x e=true->x.len=ks.length->PQ X pos keys e (λU H R=>∃ Q,wEs G x U H Q (E U)/\∀ xs H1,xs.length=x.len->Q xs H1->R (Ij ks xs) H1)
 | .nil,G,X,S,E,g,ks,keys,[],pos,h1,h,hl=>by
  obtain rfl:ks=[]:=List.eq_nil_of_length_eq_zero hl.symm;rw[j7 h1];exact λY s U H R I ⟨Q,q,i⟩=>Ee Y s U H R I (i [] H rfl q)
 | .nil,G,X,S,E,g,_,_,_::_,pos,h1,h,hl=>by cases(show false=true from h)
 | .cons x xs,G,X,S,E,g,_,_,[],pos,h1,h,hl=>by cases(show false=true from h)
 | .cons x xs,G,X,S,E,g,[],keys,e::es,pos,h1,h,hl=>by cases hl
 | .cons x xs,G,X,S,E,g,c::ks,keys,e::es,pos,h1,h,hl=>by
  have h:(mE S x e&&notStar e&&iU S xs es)=true:=h;simp only[mo]at h;obtain⟨j,p,r,rfl,h2⟩:=gN h1;intro Y s U H R I ⟨Q,q,i⟩;refine zk vS (PE.bV (sE x g h.1.1)) (Kj xs g h2 h.2 (Nat.succ.inj hl)) Y s U H R I ?_;exact⟨_,q,λy H2 z=>⟨_,z,λys H3 hy w=>i (y::ys) H3 (congrArg Nat.succ hy) w⟩⟩
termination_by structural x=>x
theorem vt:∀ (x:ft){G:Gx}{X:Cx}{S:Sn}{E:St->XK},Gd X G S k E->∀ {e:List Expr},iU S x e=true->PA X e (λU H Q=>wEs G x U H Q (E U))
 | .nil,G,X,S,E,g,[],h=>cy
 | .nil,G,X,S,E,g,_::_,h=>by cases(show false=true from h)
 | .cons x xs,G,X,S,E,g,[],h=>by cases(show false=true from h)
 | .cons x xs,G,X,S,E,g,e::es,h=>by
  have h:(mE S x e&&notStar e&&iU S xs es)=true:=h;simp only[mo]at h;exact eK (sE x g h.1.1) (vt xs g h.2) h.1.2
termination_by structural x=>x
end
end
end L3
namespace L2
open PySem PySem.Spec PyProof.Rows
variable {ok:Cx->Prop}{scope:Scope}{cl:List (Str×Addr)}{fr:List Str}{sel:List Nat}{U:St}{s:Shared}
section
variable {X:Cx}
abbrev JW (X:Cx)(U:St)(st:Stmt)(t:TS):Prop:=∀ (Y:K2) (s:Shared) (H:Hp) (D:Ends),Inv X Y U H s->t D U H->wpAny (model X.prog X.w) X.A (exec st X.env) (SP X Y D) X.xe s
def fj {elt iter tgt:Expr}{ifs:List Expr}{xs:List Str}{y:Str}{py pos spos:Pos}{wi:TI}{tg:TG}{tc:TT}{te:TE}{ni:Nat}{E:XK}(hc:∀ {Y:K2}{U:St}{H:Hp}{s:Shared}{fp:List Addr},Inv X Y U H s->ok (dB X scope cl (xs++fr) s H fp E)) (hx:kL X U E) (S:aS X scope cl xs fr sel) (hi:BV ok X tgt iter wi)
  (hg:∀ (s:Shared) (H:Hp) (fp:List Addr),PG (dB X scope cl (xs++fr) s H fp E) tgt tg) (ht:∀ (s:Shared) (H:Hp) (fp:List Addr),Iw (dB X scope cl (xs++fr) s H fp E) ifs tc)
  (he:∀ (s:Shared) (H:Hp) (fp:List Addr),PE (dB X scope cl (xs++fr) s H fp E) elt te) (hs:∀ x,foldedSetIterable iter X.env x=pure x) (hN:X.N.Nodup) (hni:X.N[ni]? =some y) (hy:X.env.scope.names.lookup y=some .local)
  (hsw:swapsWith (.ListComp elt [⟨tgt,iter,ifs,0⟩] scope pos) (some (.Name y py)) spos.line X.env=pure true):JW X U (.Assign [.Name y py] (.ListComp elt [⟨tgt,iter,ifs,0⟩] scope pos) spos) (λD U H=>Gm wi tg tc te xs sel U H λv H1=>D.nx (U.set ni (some v)) H1):=by
 intro Y s H DD I h;rw[exec_Assign_Name_used _ _ _ _ hsw];refine ad (wpAny_standAt (ad ?_));show wpAny _ _ (do let _ <-comprehension (.ListComp elt [⟨tgt,iter,ifs,0⟩] scope pos) scope X.env _ (newList []) false (eval iter X.env) (some (assign (.Name y py) X.env))) _ _ s;refine ad (wpAny_mono (wpAny_comprehension_free (use:=some (assign (.Name y py) X.env)) (Q:=λ_ s'=>SP X Y DD .next s') rfl hs S.clos S.kind S.names ?_) (λ_ s' hq=>am (am hq)) λ_ _ e=>e);refine ax (hi Y s U H _ I h) λv s1 h1=>ax h1 λitv s2 h2=>?_
 obtain⟨it,fp,tn,J,H2,e,I2,T,nH,f2,h2⟩:=h2;subst e;refine wpAny_newObj_type ?_;have hD:H2 s2.heap.objs.size=none:=I2.hok.fresh (re _);have I3:Inv X Y U (upd H2 s2.heap.objs.size (.lst [])) { s2 with heap:=s2.heap.push { cls:=.type "list",dict:=none,data:=.seq ([]:List Value).toArray } }:=
  I2.laid (t':=s2.toks) (λb u e=>ul _ e) (re _) ⟨Nat.zero_le _,[],0,.nil,v0 _ rfl⟩
 have fo2:∀ b ∈ fp,b<s2.heap.objs.size:=λb hb=>by
  obtain⟨o,ho,_⟩:=T.obj _ _ nH b hb;exact ut ho
 have f3:∀ b ∈ fp,fO X Y (upd H2 s2.heap.objs.size (.lst [])) b:=λb hb=>⟨by rw[af (pi (fo2 b hb))];exact(f2 b hb).1,(f2 b hb).2⟩
 have st3:tn 0 (s2.heap.push { cls:=.type "list",dict:=none,data:=.seq ([]:List Value).toArray }):=T.keep _ _ _ nH λb hb o e=>ul _ e
 have fo3:∀ b ∈ fp,b<(s2.heap.push { cls:=.type "list",dict:=none,data:=.seq ([]:List Value).toArray }).objs.size:=λb hb=>by
  rw[Heap.size_push];exact Nat.lt_succ_of_lt (fo2 b hb)
 obtain⟨W,⟨m0,w0⟩,turn⟩:=h2 _ hD;generalize s2.heap.objs.size=D at*;generalize hs3:({ s2 with heap:=s2.heap.push { cls:=.type "list",dict:=none,data:=.seq ([]:List Value).toArray } }:Shared)=s3 at*;have st3':tn 0 s3.heap:=by rw[<-hs3];exact st3
 have fo3':∀ b ∈ fp,b<s3.heap.objs.size:=by rw[<-hs3];exact fo3
 refine wpAny_newFunctionEnv S.nocell (by intro y hy;simp at hy) (λh' hns hsb=>?_) S.kind;have keep:∀ b o,s3.heap.get? b=some o->h'.get? b=some o:=λb o e=>(hsb.2 b (pi (ut e))).trans (ul _ e)
 have I4:=pK (E:=E) (tk:=s3.toks+([]:List (Str×Value)).length) S I3 f3 fo3' hns keep;have st4:tn 0 h':=T.keep _ _ _ st3' λb hb o e=>keep b o e
 have stat:∀ {H':Hp},(∀ b ∈ fp,H' b=none)->∀ b ∈ fp,fO (dB X scope cl (xs++fr) s3 (upd H2 D (.lst [])) fp E) Y H' b:=λ{H'} hn b hb=>
  ⟨hn b hb,pi (fo3' b hb),λz=>(lw.mp (I3.gQ b z)).elim (f3 b hb).2.1 (f3 b hb).2.2.1,.inl hb,λy c hy=>(f3 b hb).2.2.2.2.1 y c (S.sub y c hy),λp hp=>(f3 b hb).2.2.2.2.2 p hp⟩
 have loop:codeAny (model X.prog X.w) X.A (.compLoop (.ListComp elt [⟨tgt,iter,ifs,0⟩] scope pos) 0 (.ref it) (.ref D) (compEnvC scope cl s3.heap.objs.size X.env))
   (compPost (model X.prog X.w) X.A X.xe (some (assign (.Name y py) X.env)) (λ_ s'=>SP X Y DD .next s') (.ref D) s3.heap.objs.size) { s3 with heap:=h',toks:=s3.toks+([]:List (Str×Value)).length }:=by
  refine codeAny_loop rfl (λn s'=>∃ i σ' H',Inv (dB X scope cl (xs++fr) s3 (upd H2 D (.lst [])) fp E) Y σ' H' s'/\tn i s'.heap/\(∀ b ∈ fp,H' b=none)/\W i n σ' H') (λn s5 hI=>?_) m0 ⟨0,_,_,I4,st4,λb hb=>(f3 b hb).1,w0⟩;show wpAny _ _ ((compTurn (.ListComp elt [⟨tgt,iter,ifs,0⟩] scope pos) 0 (.ref it) (.ref D) (compEnvC scope cl s3.heap.objs.size X.env)).onRaise (λx=>do noteFrame x (compEnvC scope cl s3.heap.objs.size X.env);theTreesLotGoes x)) _ _ s5;refine wpAny_noted ?_;refine sZ (ht s3 (upd H2 D (.lst [])) fp).1 ?_;have bad:=sP (scope:=scope) (cl:=cl) (xs:=xs) (fr:=fr) (P:=λ_ s'=>SP X Y DD .next s') (use:=some (assign (.Name y py) X.env)) (D:=D) hx I3 f3;obtain⟨i,σ5,H5,I5,st5,fr5,w5⟩:=hI;rcases turn i n σ5 H5 w5 with⟨stop,q⟩|⟨go,Nn,hNn,step⟩
  .refine ax (T.done (dB X scope cl (xs++fr) s3 (upd H2 D (.lst [])) fp E) rfl rfl rfl (hc I3) i _ s5 σ5 H5 _ I5 (stat fr5) st5 stop) λr s6 ⟨hr,I6⟩=>?_
   subst hr;obtain⟨m,hn,_⟩:=I6.loc;have J:Inv X Y U H5 s6:=I3.tw (ch:=fp) I6.os I6.base I6.hok I6.bare λb hb=>⟨(f3 b hb).2.2.2.1,(f3 b hb).2.1,(f3 b hb).2.2.2.2.1,(f3 b hb).2.2.2.2.2⟩
   have fC:H5 s3.heap.objs.size=none:=I6.free;have nL:s3.heap.objs.size≠X.env.locals:=Ne.symm (pi I3.lt);have nC:∀ z c,X.env.cells.lookup z=some c->c≠s3.heap.objs.size:=λz c e=>by
    obtain⟨v,o,ho,_⟩:=I3.cell z c e;exact pi (ut ho)
   show wpAny _ _ (assign (.Name y py) X.env (.ref D)) _ _ s6;refine wpAny_assign_Name (kX J hN hni (.inl hy) (v:=.ref D) rfl (λs7 J7 hsb=>?_) (.inr hy));obtain⟨a,sb,ha⟩:=hsb;have hne:s3.heap.objs.size≠a:=by
    rcases ha with ha|ha
    .rw[ha];exact nL
    .exact Ne.symm (nC _ _ ha)
   refine⟨m,hn.sameBut sb hne,λh'' hs''=>⟨_,H5,?_,q⟩⟩;exact J7.turned (h':=h'') (t':=s7.toks) (it:=s3.heap.objs.size) (λb o hb e=>(hs''.2 b hb).trans e) fC nL (.inr I3.sz) nC λp hp=>pi (ut (I3.pin p hp).1)
  .have fin:∀ {σ8:St}{H10:Hp}{s10:Shared},Inv (dB X scope cl (xs++fr) s3 (upd H2 D (.lst [])) fp E) Y σ8 H10 s10/\tn (i+1) s10.heap/\(∀ b ∈ fp,H10 b=none)->Nn σ8 H10->∃ m',m'<n/\∃ i σ' H',Inv (dB X scope cl (xs++fr) s3 (upd H2 D (.lst [])) fp E) Y σ' H' s10/\tn i s10.heap/\(∀ b ∈ fp,H' b=none)/\W i m' σ' H':=λ⟨I,t,f⟩ nn=>by
    obtain⟨m',hm,w10⟩:=hNn _ _ nn;exact⟨m',hm,i+1,_,_,I,t,f,w10⟩
   refine ax (T.item (dB X scope cl (xs++fr) s3 (upd H2 D (.lst [])) fp E) rfl rfl rfl (hc I3) i _ s5 σ5 H5 _ I5 (stat fr5) st5 go) λr s6 ⟨u,hr,h6⟩=>?_
   subst hr;refine ax h6 λ_ s7 ⟨xv,H7,I7,r7,y7,st7,fr7⟩=>?_
   have I7':=I7.pinned (stat fr7) (T.obj _ _ st7);refine wpAny_mono (hg s3 _ fp _ s7 σ5 H7 xv u _ I7' r7 (step xv _ y7)) (λ_ s8 ⟨σ8,H8,I8,q8⟩=>?_) bad;refine wpAny_mono ((ht s3 _ fp).2 _ s8 σ8 H8 _ I8 q8) (λok s9 ⟨H9,I9,q9⟩=>?_) bad;have back:∀ {H10:Hp}{s10:Shared},Inv (dB X scope cl (xs++fr) s3 (upd H2 D (.lst [])) fp E) _ σ8 H10 s10->Inv (dB X scope cl (xs++fr) s3 (upd H2 D (.lst [])) fp E) Y σ8 H10 s10/\tn (i+1) s10.heap/\(∀ b ∈ fp,H10 b=none):=λ{H10 s10} I10=>⟨I10.dG,T.keep _ _ _ st7 λb hb o e=>(I10.pin (b,o) (im _ (im _ (bC hb e)))).1,λb hb=>by
    obtain⟨o,e,d⟩:=T.obj _ _ st7 b hb;exact(I10.pin (b,o) (im _ (im _ (bC hb e)))).2.1⟩
   refine⟨λek=>?_,λek=>am ⟨rfl,fin (back I9) (q9.2 ek)⟩⟩;refine wpAny_mono (he s3 _ fp _ s9 _ _ _ I9 (q9.1 ek)) (λuv s10 ⟨vv,H10,I10,r10,zs,hz,hzl,n10⟩=>?_) bad;refine wpAny_mono (gG (X:=dB X scope cl (xs++fr) s3 (upd H2 D (.lst [])) fp E) _ s10 _ H10 (.ref D) [vv] (.ref D) [uv] (λ_ H'=>H'=upd H10 D (.lst (zs++[vv]))) I10 rfl (.cons r10 .nil) ⟨D,zs,vv,rfl,rfl,hz,hzl,rfl⟩) (λ_ s11 ⟨_,H11,I11,_,e11⟩=>?_) bad;subst e11;exact am ⟨rfl,fin (back I11) n10⟩
 exact codeAny_compStart_list loop (T.self _ 0 _ _ _ st4 loop)
def kI {elt iter:Expr}{x y:Str}{px py pos spos:Pos}{wi:TI}{te:TE}{ni:Nat}{E:XK}(hc:∀ {Y:K2}{U:St}{H:Hp}{s:Shared}{fp:List Addr},Inv X Y U H s->ok (dB X scope cl (x::fr) s H fp E)) (hx:kL X U E) (S:aS X scope cl [x] fr sel) (hi:BV ok X (.Name x px) iter wi)
  (he:∀ (s:Shared) (H:Hp) (fp:List Addr),PE (dB X scope cl (x::fr) s H fp E) elt te) (hs:∀ x,foldedSetIterable iter X.env x=pure x) (hN:X.N.Nodup) (hni:X.N[ni]? =some y) (hy:X.env.scope.names.lookup y=some .local)
  (hsw:swapsWith (.ListComp elt [⟨.Name x px,iter,[],0⟩] scope pos) (some (.Name y py)) spos.line X.env=pure true):JW X U (.Assign [.Name y py] (.ListComp elt [⟨.Name x px,iter,[],0⟩] scope pos) spos) (λD U H=>Ki wi te sel U H λv H1=>D.nx (U.set ni (some v)) H1):=λY s H D I h=>
 fj (ok:=ok) hc hx S hi.up (λs H fp=>lY S) (λ_ _ _=>ng) he hs hN hni hy hsw Y s H D I ⟨_,h,λ_ _ q=>q.g⟩
section
variable {prog:Program}{w:World}{A:Around}{E:K1}
def la {it t:Addr}{items:Array Value}(hne:t≠it):∀ (n i:Nat) (s:Shared) (Q:List Value->Shared->Prop),s.heap.IsListIter it t i->s.heap.IsList t items->i+n<=items.size->
  (∀ h',h'.IsListIter it t (i+n)->Heap.SameBut it s.heap h'->Q ((items.toList.drop i).take n) { s with heap:=h' })->wpAny (model prog w) A (draw (.ref it) n) Q E s
 |0,i,s,Q,hit,_,_,hQ=>by
  show wpAny _ _ (pure []) Q E s;exact am (by simpa using hQ s.heap hit (Heap.SameBut.refl ..))
 |n+1,i,s,Q,hit,ht,hle,hQ=>by
  have hlt:i<items.size:=by omega
  show wpAny _ _ (pyNext (.ref it) >>= _) Q E s;refine ad (wpAny_pyNext_list_item hit ht (x:=items[i]) (by simp[hlt]) λh₁ hit₁ hs₁=>?_);refine ad (bd (la hne n (i+1) _ _ hit₁ (ht.extBut hs₁.extBut hne) nofun λh₂ hit₂ hs₂=>am ?_));have hd:items.toList.drop i=items[i]::items.toList.drop (i+1):=by simp[List.drop_eq_getElem_cons,hlt]
  have:=hQ h₂ (by rw[show i+(n+1)=i+1+n by omega];exact hit₂) (hs₁.trans hs₂);rw[hd,List.take_succ_cons]at this;exact this
def gY {t:Addr}{items:Array Value}{Q:List Value->Shared->Prop}(hh:A.handled=none)(ht:s.heap.IsList t items)(hty:s.TypeIs (.ref t) "list")
  (hQ:∀ h',Heap.ExtBut s.heap.objs.size s.heap h'->Q items.toList { s with heap:=h' }):wpAny (model prog w) A (unpackItems (.ref t) items.size none) Q E s:=by
 have hlt:t≠s.heap.objs.size:=by obtain⟨o,ho,_⟩:=id ht;exact pi (ut ho)
 unfold unpackItems;refine ad ?_
 .unfold notIterableAtAll;refine ad (wpAny_specialOf hty PySem.F.slot_list_iter.lookup ?_);refine am ?_;simp only[Bool.false_eq_true,if_false];refine ad (bd (wpAny_pyIter_list ht ?_));refine ad (bd (la hlt items.size 0 _ _ ⟨_,v0 _ rfl,rfl,rfl⟩ (ht.push _) nofun λh₁ hit₁ hs₁=>?_));have hall:List.take items.size (List.drop 0 items.toList)=items.toList:=by
   rw[drop_zero];exact List.take_of_length_le (by simp)
  rw[hall];rw[if_neg (by simp)];have ht₁:h₁.IsList t items:=(ht.push _).extBut hs₁.extBut hlt;refine ad (bd (wpAny_pyNext_list_end hh hit₁ ht₁ (by simp) λh₂ he₂=>?_));simp only[Option.isSome_none,Bool.false_eq_true,if_false];refine am (hQ h₂ λb o hb e=>he₂ b o hb (hs₁.extBut b o hb (ul _ e)))
end
def En {es:List Expr}{k:Nat}{pos:Pos}{t:AW}{n:Nat}(hc:X.calm=true)(h:ES X es t)
  (hn:(assignEach es X.env).length=n) (hst:(assignEach es X.env).findIdx? (·.1)=none){Y:K2}{H:Hp}{a:Addr}{u:Value}{xs:List V}{Q:St->Hp->Prop}(I:Inv X Y U H s) (r:RelV (.ref a) u)
  (hq:ba X.K H a xs) (hl:xs.length=n) (hw:t xs U H Q):wpAny (model X.prog X.w) X.A (assign (.Tuple es k pos) X.env u) (λ_ s'=>∃ σ' H',Inv X Y σ' H' s'/\Q σ' H') X.xe s:=by
 cases r;obtain⟨its,rv,p,hz⟩:=I.list hq;rw[assign_Tuple];refine ad (wpAny_standAt ?_);unfold unpack;have e1:(assignEach es X.env).length=its.toArray.size:=by
  rw[hn,<-hl];simp[rv.length]
 rw[e1,hst];refine ad (bd (gY (I.ok.hd hc) p.isList p.isList.typeIs λh' hx=>?_));have I1:Inv X Y U H { s with heap:=h' }:=I.kept (t':=s.toks) λb o e=>hx b o (pi (ut e)) e
 exact h Y _ U H xs _ Q I1 (by simpa using rv) hw
end
end L2
namespace L3
open PySem PySem.Spec L2
set_option maxHeartbeats 2000000
abbrev Cq:Expr->Bool
 | .Tuple ..=>false
 |_=>true
abbrev vj (S:Sn):List Nat->List Expr->Bool
 | [],[]=>true
 |i::is,.Name x _::r=>S.loc i x&&vj S is r
 |_,_=>false
abbrev IT (S:Sn):HY->Expr->Bool
 | .nm i,e=>match e with| .Name x _=>S.loc i x|_=>false
 | .tp is,e=>match e with| .Tuple ts _ _=>vj S is ts|_=>false
 | .nt i is,e=>match e with| .Tuple y1 _ _=>(match y1 with| [y2,y3]=>(match y2 with| .Name x _=>(match y3 with| .Tuple ts _ _=>S.loc i x&&vj S is ts|_=>false)|_=>false)|_=>false)|_=>false
mutual
noncomputable def mS (S:Sn):Sx->Stmt->Bool
 | .asg i e,s=>match s with| .Assign y1 e' _=>(match y1 with| [y2]=>(match y2 with| .Name x _=>S.loc i x&&mE S e e'|_=>false)|_=>false)|_=>false
 | .asgT is e,s=>match s with| .Assign y1 e' _=>(match y1 with| [y2]=>(match y2 with| .Tuple ts _ _=>vj S is ts&&mE S e e'&&Cq e'|_=>false)|_=>false)|_=>false
 | .par is es,_=>false
 | .sub o i v,s=>match s with| .Assign y1 v' _=>(match y1 with| [y2]=>(match y2 with| .Subscript o' i' _=>mE S o o'&&mE S i i'&&mE S v v'&&en i'|_=>false)|_=>false)|_=>false
 | .fld o f v,s=>match s with| .Assign y1 v' _=>(match y1 with| [y2]=>(match y2 with| .Attribute o' f' _=>mE S o o'&&decide (f=f')&&mE S v v'|_=>false)|_=>false)|_=>false
 | .aug i op e,_=>false
 | .augS o i op e,s=>match s with| .AugAssign y1 op' e' _=>(match y1 with| .Subscript o' i' _=>mE S o o'&&mE S i i'&&decide (op=op')&&mE S e e'&&en i'|_=>false)|_=>false
 | .augF o f op e,_=>false
 | .ret e,s=>match s with| .Return y1 _=>(match y1 with|some e'=>mE S e e'|_=>false)|_=>false
 | .retN,_=>false
 | .pass,_=>false
 | .brk,_=>false
 | .cont,_=>false
 | .expr e,s=>match s with| .Expr e' _=>mE S e e'&&qm e'|_=>false
 | .ife c a b,s=>match s with| .If c' a' b' _=>mT S c c'&&mB S a a'&&mB S b b'|_=>false
 | .whl c b,s=>match s with| .While c' b' y1 _=>(match y1 with| []=>mT S c c'&&mB S b b'|_=>false)|_=>false
 | .for t it b,s=>match s with| .For t' it' b' y1 _=>(match y1 with| []=>IT S t t'&&mI S it t' it'&&mB S b b'&&cJ it'|_=>false)|_=>false
 | .rais e,s=>match s with| .Raise y1 y2 _=>(match y1 with|some e'=>(match y2 with|none=>mE S e e'|_=>false)|_=>false)|_=>false
 | .tryx b hs,s=>match s with| .Try b' y1 y2 y3 _=>(match y1 with|h0::hs'=>(match y2 with| []=>(match y3 with| []=>mB S b b'&&mH S hs (h0::hs')|_=>false)|_=>false)|_=>false)|_=>false
noncomputable def mB (S:Sn):j9->List Stmt->Bool
 | .nil,l=>l.isEmpty
 | .cons s r,l=>match l with|s'::r'=>mS S s s'&&mB S r r'| []=>false
noncomputable def mH (S:Sn):yU->List ExceptHandler->Bool
 | .nil,l=>l.isEmpty
 | .cons c i b hs,l=>match l with| .ExceptHandler (some (.Name x _)) (some n) (b0::bs) _::r=>S.j8 x&&decide (S.T.gcl.lookup x=some c)&&decide (S.N[i]? =some n)&&decide (S.sc.names.lookup n=some .local)&&mB S b (b0::bs)&&mH S hs r|_=>false
end
structure Gs (X:Cx) (G:Gx) (S:Sn) (k:Nat) (E:St->XK):Prop extends Gd X G S k E where
 own:PassesOwn (model X.prog X.w) X.A X.env X.xe
 stk:X.stack=X.env::X.outer
 fr:X.env.frame=some X.env.locals
 fn:∀ x,X.fn x=true
variable {e elt:Expr}{ts:List Expr}{p:Pos}{gs:List Comprehension}{scope:Scope}
section
variable {X:Cx}{G:Gx}{S:Sn}{k:Nat}{E:St->XK}
def Gs.fm (g:Gs X G S k E){Y:K2}{xe:K1}{E':St->XK}(hx:Dm (X.fm Y xe) E')(ho:PassesOwn (model X.prog X.w) X.A X.env xe):Gs (X.fm Y xe) G S k E' where
 hK:=g.hK
 hT:=g.hT
 sc:=g.sc
 N:=g.N
 nd:=g.nd
 pass:=cF hx
 hd:=g.hd
 xok:=hx
 xst:=g.xst
 room:=g.room
 un:=g.un
 tab:=g.tab
 fns:=g.fns
 fnsU:=g.fnsU
 own:=ho
 stk:=g.stk
 fr:=g.fr
 fn:=g.fn
def Gs.aH (g:Gs X G S k E)(hc:G.cm=.calm)(e:Addr):Gs (X.aH (.ref e)) { G with cm:=.aH e } S k (λ_ _ _=>False) where
 hK:=g.hK
 hT:=g.hT
 sc:=g.sc
 N:=g.N
 nd:=g.nd
 pass:=λY U H s e s' I h=>by
  obtain⟨e,H',C,dx,fs,T,_,_,_,_,_,_,_,_,_,q⟩:=h;exact q.elim
 hd:=rfl
 xok:=λ_ _ _ _ _ _ _ _ _ _ z=>z.elim
 xst:=g.xst
 room:=⟨g.room.dp,g.room.un⟩
 un:=g.un
 tab:=g.tab
 fns:=λf d h=>(g.fnsU hc f d h).imp λ_ _ _ _ z=>z.2
 fnsU:=λz=>by cases z
 own:=PassesOwn.never
 stk:=g.stk
 fr:=g.fr
 fn:=g.fn
def jx (env:Env):∀ {is:List Nat}{ts:List Expr},vj S is ts=true->(assignEach ts env).length=is.length/\(assignEach ts env).findIdx? (·.1)=none
 | [],[],_=>⟨rfl,rfl⟩
 | [],_::_,h=>by simp[vj]at h
 |_::_,[],h=>by simp[vj]at h
 |i::is,t::ts,h=>by
  cases t<;>simp[vj]at h
  rename_i x p;obtain⟨h1,h2⟩:=jx env h.2;have e:assignEach (.Name x p::ts) env=(false,assign (.Name x p) env)::assignEach ts env:=rfl;rw[e];refine⟨by simp[h1],?_⟩;rw[List.findIdx?_cons];simp[h2]
def nv (g:Gs X G S k E):∀ {is:List Nat}{ts:List Expr},vj S is ts=true->ES X ts (gl is)
 | [],[],_=>λY s U H vs us Q I r h=>mW Y s U H vs us Q I r ⟨length_eq_zero_iff.mp h.1,by
   have:=h.2;have e:vs=[]:=length_eq_zero_iff.mp h.1;subst e;exact this⟩
 | [],_::_,h=>by simp[vj]at h
 |_::_,[],h=>by simp[vj]at h
 |i::is,t::ts,h=>by
  cases t<;>simp[vj]at h
  rename_i x p;obtain⟨hi,hx⟩:=g.loc h.1;have h1:PG X (.Name x p) (gc i):=gp (by rw[g.N];exact g.nd) hi hx (.inl (g.fn x));have h2:=nv g h.2;intro Y s U H vs us Q I r q;refine gC h1 h2 rfl Y s U H vs us Q I r ?_;obtain⟨hl,q⟩:=q;cases vs with
  |nil=>simp at hl
  |cons v vs=>exact⟨v,vs,rfl,by simpa using hl,q⟩
def CM (g:Gs X G S k E)(hc:G.cm=.calm){t:HY}(h:IT S t e=true):PG X e (λv U H Q=>wG U t G.R.K v H λσ1=>Q σ1 H):=by
 cases t with
 |nm i=>
  conv at h=>lhs;whnf
  split at h
  .obtain⟨hi,hx⟩:=g.loc h;exact gp (by rw[g.N];exact g.nd) hi hx (.inl (g.fn _))
  .cases h
 |tp is=>
  conv at h=>lhs;whnf
  split at h
  .intro Y s U H v u Q I r q;obtain⟨a,xs,rfl,hq,hl,q⟩:=q;obtain⟨e1,e2⟩:=jx X.env h;rw[g.hK]at hq;rcases hq with hq|hq
   .exact lW (g.cm hc) (nv g h) e1 e2 Y s U H _ u Q I r ⟨a,xs,rfl,hq,hl,hl,q⟩
   .exact En (g.cm hc) (nv g h) e1 e2 I r hq hl ⟨hl,q⟩
  .cases h
 |nt i is=>
  conv at h=>lhs;whnf
  split at h
  .split at h
   .split at h
    .split at h
     .intro Y s U H v u Q I r q;simp only[mo]at h;obtain⟨a,y,b,ys,rfl,hq,hb,hl,q⟩:=q;obtain⟨e1,e2⟩:=jx X.env h.2;obtain⟨hi,hx⟩:=g.loc h.1;rw[g.hK]at hq hb;refine lW (n:=2) (g.cm hc) (gC (gp (by rw[g.N];exact g.nd) hi hx (.inl (g.fn _))) (gC (lW (g.cm hc) (nv g h.2) e1 e2) mW rfl) rfl) rfl rfl Y s U H _ u Q I r ⟨a,_,rfl,hq,rfl,y,_,rfl,.ref b,_,rfl,b,ys,rfl,hb,hl,hl,rfl,q⟩
     .cases h
    .cases h
   .cases h
  .cases h
def oZ {kk:Nat}(n:Nat)(env:Env):swapsWithSole [.Tuple ts kk p] e n env=pure false:=by
 cases e<;>rfl
def uz {o i:Expr}(n:Nat)(env:Env):swapsWithSole [.Subscript o i p] e n env=pure false:=by
 cases e<;>rfl
def uA {o:Expr}{f:Str}(n:Nat)(env:Env):swapsWith e (some (.Attribute o f p)) n env=pure false:=by
 cases e<;>rfl
def qC {kk:Nat}(env:Env)(h:Cq e=true):swappedStores [.Tuple ts kk p] e env=pure none:=by
 cases e<;>first|rfl|cases h
def qB {o i:Expr}(env:Env):swappedStores [.Subscript o i p] e env=pure none:=by
 cases e<;>rfl
def qZ {o i:Expr}{pos:Pos}{env:Env}(h:en i=true):∀ v,assign (.Subscript o i pos) env v=(do
   let ov <-holding [v] (eval o env)
   let iv <-holding [v,ov] (eval i env)
   standAt pos
   holding [v,ov,iv] (setItem ov iv v)
   release [v,ov,iv] []):=by
 intro v;cases i<;>first|rfl|cases h
def AR {i:Expr}(h:en i=true):∀ ov iv new,augStore i ov iv new=(do holding [new,ov,iv] (setItem ov iv new);release [new,ov,iv] [];pure .next):=by
 intro ov iv new;cases i<;>first|rfl|cases h
def F5 (op:Operator):Ii X op (JJ op):=by
 intro Y s U H x y v u Q I r1 r2 h;unfold JJ at h
 split at h
 .exact DC Y s U H _ _ v u Q I r1 r2 ⟨_,_,rfl,rfl,h⟩
 .exact E8 Y s U H _ _ v u Q I r1 r2 ⟨_,_,rfl,rfl,h⟩
 .exact h.elim
def Fl (g:Gd X G S k E):DM X (yE G.R.K):=by
 intro Y s U H x y v u Q I r1 r2 h;unfold yE at h;rw[g.hK]at h
 split at h
 .obtain⟨xs,w,h1,h2,h3,q⟩:=h;exact xG Y s U H _ _ v u Q I r1 r2 ⟨_,xs,_,w,rfl,rfl,h1,h2,h3,q⟩
 .exact h.elim
def qM {py:Pos}{y:Str}{n:Nat}{env:Env}(hk:env.scope.kind=.function):∃ b,swapsWith (.ListComp elt gs scope p) (some (.Name y py)) n env=pure b/\(b=true->env.scope.names.lookup y=some .local):=by
 refine⟨_,rfl,λh=>?_⟩;simp only[mo]at h;have:=h.1.1.2;exact beq_iff_eq.mp this
end
set_option maxHeartbeats 2000000
variable {S:Sn}
section
variable {k:Nat}
def GV {x:Ex}(h:mE S x (.ListComp elt gs scope p)=true):(∃ e' sel it y py iter,x=.lc e' sel it/\gs=[⟨.Name y py,iter,[],0⟩]/\
  fz S scope [y] sel=true/\mI S it (.Name y py) iter=true/\mE { S with sc:=cD S.sc scope,N:=y::sel.filterMap λi=>S.N[i]? } e' elt=true/\cJ iter=true)\/
  (∃ e' c sel it y py iter c',x=.lci e' c sel it/\gs=[⟨.Name y py,iter,[c'],0⟩]/\
  fz S scope [y] sel=true/\mI S it (.Name y py) iter=true/\mE { S with sc:=cD S.sc scope,N:=y::sel.filterMap λi=>S.N[i]? } e' elt=true/\mT { S with sc:=cD S.sc scope,N:=y::sel.filterMap λi=>S.N[i]? } c c'=true/\cJ iter=true)\/
  ∃ e' n sel it ts kt pt iter,x=.lct e' n sel it/\gs=[⟨.Tuple ts kt pt,iter,[],0⟩]/\
  fz S scope (Gu ts) sel=true/\xC { S with sc:=cD S.sc scope,N:=Gu ts++sel.filterMap λi=>S.N[i]? } (List.range n) ts=true/\(Gu ts).length=n/\mI S it (.Tuple ts kt pt) iter=true/\mE { S with sc:=cD S.sc scope,N:=Gu ts++sel.filterMap λi=>S.N[i]? } e' elt=true/\cJ iter=true:=by
 cases x<;>(try (cases(show false=true from h);done))
 all_goals (conv at h=>lhs;whnf)
 all_goals (iterate 5 (split at h<;>first|(cases h;done)|skip))
 all_goals (simp only[mo,decide_eq_true_eq]at h)
 all_goals first
  |exact .inl ⟨_,_,_,_,_,_,rfl,rfl,h.1.1.1,h.1.1.2,h.1.2,h.2⟩
  |exact .inr (.inl ⟨_,_,_,_,_,_,_,_,rfl,rfl,h.1.1.1.1,h.1.1.1.2,h.1.1.2,h.1.2,h.2⟩)
  |exact .inr (.inr ⟨_,_,_,_,_,_,_,_,rfl,rfl,h.1.1.1.1.1,h.1.1.1.1.2,h.1.1.1.2,h.1.1.2,h.1.2,h.2⟩)
def qP (e:Expr){x:Ex}(h:mE S x e=true):qm e=true\/∃ elt gs scope p,e=.ListComp elt gs scope p:=by
 cases e<;>first|exact .inl rfl|exact .inr ⟨_,_,_,_,rfl⟩|(cases x<;>cases(show false=true from h))
def HB {G:Gx}{X:Cx}{E:St->XK}(g:Gs X G S k E){i:Nat}{x:Str}{e:Ex}{e':Expr}{px:Pos}(hx:S.loc i x=true)(h:mE S e e'=true):PS X (.Assign [.Name x px] e' p) (λD U H=>wS (.asg i e) G D E U H):=by
 obtain⟨hi,hl⟩:=g.loc hx;have hN:X.N.Nodup:=by rw[g.N];exact g.nd
 rcases qP e' h with hn|⟨elt,gs,scope,pp,rfl⟩
 .exact wt hN hi hl (sE e g.toGd h) (gx hn _ _ _) (.inl (g.fn x))
 .intro Y s U H D I q;obtain⟨b,hb,hb2⟩:=qM (elt:=elt) (gs:=gs) (scope:=scope) (p:=pp) (py:=px) (y:=x) (n:=p.line) (env:=X.env) I.ok.kind;cases b with
  |false=>exact wt hN hi hl (sE e g.toGd h) hb (.inl (g.fn x)) Y s U H D I q
  |true=>
   rcases GV h with⟨e2,sel,it,y,py,iter,rfl,rfl,h1,h2,h3,h4⟩|⟨e2,c,sel,it,y,py,iter,c',rfl,rfl,h1,h2,h3,h5,h4⟩|⟨e2,n,sel,it,ts,kt,pt,iter,rfl,rfl,h1,h5,h6,h2,h3,h4⟩
   .rcases yi (show Ib G.cm (wI G it U H (λJ H1=>vm (λσ' H' Q'=>wE G e2 σ' H' Q' (E U)) J (none::dE U sel) H1 (λx H1=>D.nx (U.set i (some x)) H1)) (E U)) (IQ G it U H (λJ H1=>vm (λσ' H' Q'=>wE { G with cm:=.mute } e2 σ' H' Q' (E U)) J (none::dE U sel) H1 (λx H1=>D.nx (U.set i (some x)) H1)) (E U)) from q) with⟨hc,q⟩|⟨hc,q⟩
    .rw[mn]at q;obtain⟨cl,C⟩:=a7 g.toGd I.ok h1;exact kI (ok:=Calm) (λ_=>g.cm hc) (g.toGd.cx U) C (sI it g.toGd h2) (λs H fp=>sE e2 (g.toGd.comp hc C (E U) s H fp) h3) (aQ h4 _) hN hi (hb2 rfl) hb Y s H D I q
    .cases it with
     |seq a=>
      rw[mn]at q;obtain⟨cl,C⟩:=a7 g.toGd I.ok h1;have sx:eY X:=by
       have hd:=g.hd;rw[hc]at hd;exact hd
      refine kI (ok:=eY) (wi:=λU H R=>wE G a U H (λx H1=>match x with| .ref p=>(∃ xs,aX G.R.K H1 p xs)/\R (vo G.R.K p) H1|_=>False) (E U)) (λI'=>sx.now I') (g.toGd.cx U) C (λY s U H R I q=>?_) (λs H fp=>sE e2 (g.toGd.B0 hc C (E U) s H fp) h3) (aQ h4 _) hN hi (hb2 rfl) hb Y s H D I q;have q':wE G a U H (λx H1=>match x with| .ref p=>(∃ xs,aX G.R.K H1 p xs)/\R (vo G.R.K p) H1|_=>False) (E U):=q;rw[g.hK]at q';refine ax (sE a g.toGd h2 Y s U H _ I q') λv s1 ⟨x,H1,I1,r1,z⟩=>?_
      dsimp only at z
      split at z
      .obtain⟨⟨xs,hx⟩,z⟩:=z;exact lx I1 r1 hx z
      .exact z.elim
     |_=>exact q.elim
   .obtain⟨hc,q⟩:=(show G.cm=.calm/\wI G it U H (λJ H1=>Fc (λσ' H' Q'=>wT G c σ' H' Q' (E U)) (λσ' H' Q'=>wE G e2 σ' H' Q' (E U)) J (none::dE U sel) H1 (λx H1=>D.nx (U.set i (some x)) H1)) (E U) from q);rw[yf]at q;obtain⟨cl,C⟩:=a7 g.toGd I.ok h1;exact fj (ok:=Calm) (λ_=>g.cm hc) (g.toGd.cx U) C (sI it g.toGd h2) (λs H fp=>lY C) (λs H fp=>tF (sT c (g.toGd.comp hc C (E U) s H fp) h5)) (λs H fp=>sE e2 (g.toGd.comp hc C (E U) s H fp) h3) (aQ h4 _) hN hi (hb2 rfl) hb Y s H D I q
   .cases(show false=true from h)
mutual
theorem sS:∀ (x:Sx){G:Gx}{X:Cx}{S:Sn}{E:St->XK},Gs X G S k E->∀ {st:Stmt},mS S x st=true->PS X st (λD U H=>wS x G D E U H)
 | .asg i e,G,X,S,E,g,st,h=>by
  sleep 3
  simp only[mo]at h;exact HB g h.1 h.2
 | .asgT is e,G,X,S,E,g,st,h=>by
  sleep 3
  simp only[mo]at h;obtain⟨⟨h1,h2⟩,h3⟩:=h;intro Y s U H D I q;obtain⟨hc,q⟩:=(show G.cm=.calm/\wE G e U H (λx H1=>wG U (.tp is) G.R.K x H1 λσ1=>D.nx σ1 H1) (E U) from q);exact wo (sE e g.toGd h2) (CM g hc (t:=.tp is) (by simp only[IT];exact h1)) (oZ _ _) (qC _ h3) rfl Y s U H D I q
 | .par is es,G,X,S,E,g,st,h=>by cases(show false=true from h)
 | .sub o i v,G,X,S,E,g,st,h=>by
  sleep 3
  simp only[mo]at h;obtain⟨⟨⟨h1,h2⟩,h3⟩,h4⟩:=h;exact wo (sE v g.toGd h3) (DT (sE o g.toGd h1) (sE i g.toGd h2) (rS g.un) (qZ h4)) (uz _ _) (qB _) rfl
 | .fld o f v,G,X,S,E,g,st,h=>by
  sleep 3
  simp only[mo,decide_eq_true_eq]at h;obtain⟨⟨h1,rfl⟩,h3⟩:=h;intro Y s U H D I q;have q':wE G v U H (λy H1=>wE G o U H1 (λx H2=>Ad G f x y H2 (λH3=>D.nx U H3)) (E U)) (E U):=q;refine plainObj_wpAny_Assign_Attribute (ax (sE v g.toGd h3 Y s U H _ I q') λu s1 ⟨y,H1,I1,ry,q⟩=>ax (sE o g.toGd h1 Y s1 U H1 _ I1 q) λov s2 ⟨x,H2,I2,rx,q2⟩=>?_) (uA _ _);unfold Ad at q2;obtain⟨a,i,rfl,hna,q2⟩:=q2;obtain rfl:ov=Value.ref a:=rx;have n:=g.tab.na i f hna;rcases q2 with⟨dx,fs,ho,ea,l,q2⟩|⟨d,fs,ho,ea,l,q2⟩|⟨ho,ea,q2⟩
  .exact rg I2 ea (g.tab.oc i ho).1 n l ry λs3 I3=>⟨U,_,I3,q2⟩
  .exact qH I2 ea (g.tab.xc i ho).1 n l ry λs3 I3=>⟨U,_,I3,q2⟩
  .exact rD I2 ea (g.tab.xc i ho).1 n ry λd s3 hd I3=>⟨U,_,I3,q2 d hd⟩
 | .aug i op e,G,X,S,E,g,st,h=>by cases(show false=true from h)
 | .augS o i op e,G,X,S,E,g,st,h=>by
  sleep 2
  simp only[mo,decide_eq_true_eq]at h;obtain⟨⟨⟨⟨h1,h2⟩,rfl⟩,h3⟩,h4⟩:=h;exact Bk (sE o g.toGd h1) (sE i g.toGd h2) (Fl g.toGd) (sE e g.toGd h3) (F5 op) (rS g.un) (AR h4)
 | .augF o f op e,G,X,S,E,g,st,h=>by cases(show false=true from h)
 | .ret e,G,X,S,E,g,st,h=>by
  sleep 2
  exact EO (sE e g.toGd h)
 | .retN,G,X,S,E,g,st,h=>by cases(show false=true from h)
 | .pass,G,X,S,E,g,st,h=>by cases(show false=true from h)
 | .brk,G,X,S,E,g,st,h=>by cases(show false=true from h)
 | .cont,G,X,S,E,g,st,h=>by cases(show false=true from h)
 | .expr e,G,X,S,E,g,st,h=>by
  sleep 1
  simp only[mo]at h;exact A5 (sE e g.toGd h.1) (gx h.2 _ _ _)
 | .ife c a b,G,X,S,E,g,st,h=>by
  sleep 1
  simp only[mo]at h;exact PS.imp (HM (PT.bV (sT c g.toGd h.1.1)) (sB a g h.1.2) (sB b g h.2)) λD U H q=>⟨_,q,λk H1 z=>by rwa [cP]at z⟩
 | .whl c b,G,X,S,E,g,st,h=>by
  sleep 2
  simp only[mo]at h;refine PS.imp (v9 g.own (PT.bV (sT c g.toGd h.1)) (sB b g h.2)) λD U H q=>?_
  obtain⟨W,w0,w1⟩:=q;exact⟨W,w0,λm U H w=>⟨_,w1 m U H w,λk H1 z=>by rwa [cP]at z⟩⟩
 | .for t it b,G,X,S,E,g,st,h=>by
  sleep 2
  simp only[mo]at h;obtain⟨⟨⟨h1,h2⟩,h3⟩,h4⟩:=h;intro Y s U H D I q
  conv at q=>whnf
  obtain⟨hc,q⟩:=q;unfold fU at q;exact DB g.own (g.cm hc) (sI it g.toGd h2) (CM g hc h1) (sB b g h3) (aQ h4 _) Y s U H D I q
 | .rais e,G,X,S,E,g,st,h=>by
  sleep 3
  intro Y s U H D I q
  conv at q=>whnf
  obtain⟨hc,q⟩:=q;refine yr g.xok (g.cm hc) (PE.bV (sE e g.toGd h)) Y s U H D I ⟨_,q,λv H1 z=>?_⟩;obtain⟨a,i,dx,fs,ev,ea,hi,q⟩:=z;exact⟨a,_,dx,fs,ev,ea,(g.tab.xc i hi).1,q⟩
 | .tryx b hs,G,X,S,E,g,st,h=>by
  sleep 4
  simp only[mo]at h;intro Y s U H D I q;obtain⟨hc,q⟩:=(show G.cm=.calm/\wB b G D (λσ' e H'=>wH hs G D σ' e H') U H from q);refine CT (E':=λσ' e H'=>wH hs G D σ' e H') I g.stk g.fr (λxe hx ho=>?_) λσ' H' s' e C dx fs T J he hT hH hp st q'=>?_
  .exact sB b (g.fm hx ho) h.1 [] s U H D (I.fm xe) q
  .exact sH hs g hc h.2 J he hT hH hp st q'
theorem sB:∀ (x:j9){G:Gx}{X:Cx}{S:Sn}{E:St->XK},Gs X G S k E->∀ {st:List Stmt},mB S x st=true->Bv X st (λD U H=>wB x G D E U H)
 | .nil,G,X,S,E,g,[],h=>BK
 | .nil,G,X,S,E,g,_::_,h=>by cases(show false=true from h)
 | .cons x xs,G,X,S,E,g,[],h=>by cases(show false=true from h)
 | .cons x xs,G,X,S,E,g,st::sts,h=>by
  have h:(mS S x st&&mB S xs sts)=true:=h;simp only[mo]at h;exact wj (sS x g h.1) (sB xs g h.2)
theorem sH:∀ (x:yU){G:Gx}{X:Cx}{S:Sn}{E:St->XK},Gs X G S k E->G.cm=.calm->∀ {hs:List ExceptHandler},mH S x hs=true->∀ {Y:K2}{U:St}{H:Hp}{s:Shared}{e C:Addr}{dx:Option Addr}{fs:List (Str×V)}{T:Addr}{D:Ends},
  L2.Inv X Y U H s->H e=some (.exc C dx fs false)->X.s₀.heap.objs.size<=T->H T=none->(∀ p ∈ X.pn++Y,p.1≠T)->uB s.heap e T .none->wH x G D U e H->wpAny (model X.prog X.w) X.A (handleBy (.ref e) X.env hs) (SP X Y D) X.xe s
 | .nil,G,X,S,E,g,hc,hs,h,Y,U,H,s,e,C,dx,fs,T,D,I,he,hT,hH,hp,st,q=>by
  simp only[wH]at q
 | .cons c i b hs,G,X,S,E,g,hc,l,h,Y,U,H,s,e,C,dx,fs,T,D,I,he,hT,hH,hp,st,q=>by
  conv at h=>lhs;whnf
  split at h
  .simp only[mo,decide_eq_true_eq]at h;obtain⟨⟨⟨⟨⟨h1,h2⟩,h3⟩,h4⟩,h5⟩,h6⟩:=h;obtain⟨hg,hdb⟩:=g.glob h1;have hm:=g.tab.gcl _ _ (g.hT▸h2);obtain⟨j,dx',fs',kk,he',hxc,hsub,q⟩:=(show ∃ j dx fs k,H e=some (.exc (G.R.cad j) dx fs false)/\G.T.xc.contains j=true/\G.T.sub.lookup (j,c)=some k/\_ from q);have ee:=he.symm.trans he'
   injection ee with ee
   injection ee with e1 e2 e3 e4
   subst e1;obtain⟨_,hs2⟩:=g.tab.sub j c kk hsub;obtain⟨hs3,hs4⟩:=hs2 hxc;refine nN (i:=i) I he hT hH hp st (g.tab.xc j hxc).1 hs4 hs3 hg hm (by rw[g.N];exact g.nd) (by rw[g.N];exact h3) (by rw[g.sc];exact h4) hdb (λhk s2 J=>?_) λhk=>?_
   .rw[hk]at q;unfold ig at q;exact sB b (g.aH hc e) h5 Y s2 _ H _ J q
   .rw[hk]at q;unfold ig at q;exact sH hs g hc h6 I he hT hH hp st q
  .cases h
end
end
abbrev bh (T:Tab)(R:Rt):Nat->Nat->Sp
 |0,_=>λ_ _ _ _=>False
 |k+1,f=>λvs H Q E=>match T.fns[f]? with
  |some d=>vs.length=d.ps.length/\wB d.body ⟨T,R,bh T R k,.calm⟩ { nx:=λ_ H'=>Q .non H',rt:=Q } (λ_=>E) (start d.N vs) H
  |none=>match T.fns[f-T.fns.length]? with
   |some d=>vs.length=d.ps.length/\wB d.body ⟨T,R,λg=>bh T R k (g+T.fns.length),.soft⟩ { nx:=λ_ H'=>Q .non H',rt:=Q } (λ_=>E) (start d.N vs) H
   |none=>False
structure uW (K:W.Frag) (T:Tab) (f:Addr) (d:ai):Prop where
 ex:∃ (name qual:Str) (params:Arguments) (body:List Stmt) (scope:Scope) (dV kV doc pm cdv ct oc:Value) (od an:Option Addr) (osl:Array (Option Value)),
  K.lookup f=some ⟨oc,od,.func (W.fnOf name qual params body scope dV kV doc pm an cdv ct),osl⟩/\W.codeIn K cdv qual=true/\i7 d.N d.ps scope/\mB ⟨T,scope,d.N⟩ d.body body=true/\
  ∀ j,∃ ds,Binds K (W.fnOf name qual params body scope dV kV doc pm an cdv ct) d.ps ds/\Vals (d.dfl.drop j) ds
def nz {P:Program}{w:World}{K:W.Frag}{mg:K3}{base:Heap}{T:Tab}{R:Rt}(tab:zm K mg T R)(hK:R.K=K)(fs:∀ f d,T.fns[f]? =some d->uW K T (R.fad f) d):
  ∀ (k f:Nat) (d:ai),T.fns[f]? =some d->cu true P w K mg base (2*k) (R.fad f) d (bh T R k f)/\cu false P w K mg base (2*k) (R.fad f) d (bh T R k (f+T.fns.length))
 |0,f,d,hd=>by
  obtain⟨name,qual,params,body,scope,dV,kV,doc,pm,cdv,ct,oc,od,an,osl,lk,hcd,S,hm,hb⟩:=(fs f d hd).ex;exact⟨⟨⟨_,⟨λ_ _ _ _ h=>h.elim,λ_ _ _ _ _ _ _ _ _ _ _ _ _ _ h=>h.elim⟩,hb⟩,λ_ _ _ _ _=>⟨λ_ _ _ _ h=>h.elim,λ_ _ _ _ _ _ _ _ _ _ _ _ _ _ h=>h.elim⟩⟩,⟨⟨_,⟨λ_ _ _ _ h=>h.elim,λ_ _ _ _ _ _ _ _ _ _ _ _ _ _ h=>h.elim⟩,hb⟩,λ_ _ _ _ _=>⟨λ_ _ _ _ h=>h.elim,λ_ _ _ _ _ _ _ _ _ _ _ _ _ _ h=>h.elim⟩⟩⟩
 |k+1,f,d,hd=>by
  obtain⟨name,qual,params,body,scope,dV,kV,doc,pm,cdv,ct,oc,od,an,osl,lk,hcd,S,hm,hb⟩:=(fs f d hd).ex;have e1:T.fns[f+T.fns.length]? =none:=getElem?_eq_none (Nat.le_add_left ..);have e2:T.fns[f+T.fns.length-T.fns.length]? =some d:=by rw[Nat.add_sub_cancel];exact hd
  have all:∀ (c:Bool) (f0:Nat) (m:Md) (Ψ:Nat->Sp),(∀ vs H Q E,bh T R (k+1) f0 vs H Q E->vs.length=d.ps.length/\wB d.body ⟨T,R,Ψ,m⟩ { nx:=λ_ H'=>Q .non H',rt:=Q } (λ_=>E) (start d.N vs) H)->m.b=c->(c=true->m=.calm)->(c=false->m=.soft)->
    (∀ f' d',T.fns[f']? =some d'->cu c P w K mg base (2*k) (R.fad f') d' (Ψ f'))->(c=true->∀ f' d',T.fns[f']? =some d'->cu false P w K mg base (2*k) (R.fad f') d' (Ψ (f'+T.fns.length)))->cu c P w K mg base (2*(k+1)) (R.fad f) d (bh T R (k+1) f0):=λc f0 m Ψ h0 hm1 hm2 hm3 F1 F2=>by
   have F:=FK (c:=c) (P:=P) (w:=w) (mg:=mg) (base:=base) (CX:=vz P w) (k:=2*k+1) (sp:=bh T R (k+1) f0) lk hcd S (λvs H Q E h=>(h0 vs H Q E h).1) (λA outer s H vs Q E hr hh h=>?_)
   .refine⟨⟨_,F,hb⟩,λfd oc' od' osl' lk'=>?_⟩;have e:=lk.symm.trans lk'
    injection e with e
    injection e with e1 e2 e3 e4
    injection e3 with e3
    subst e3;exact F
   .refine⟨λD U H=>wB d.body ⟨T,R,Ψ,m⟩ D (λ_=>E) U H,?_,(h0 vs H Q E h).2⟩;have hx:=uR (c:=c) (P:=P) (w:=w) (K:=K) (mg:=mg) (base:=base) (N:=d.N) (qual:=qual) (scope:=scope) (f:=R.fad f) (cd:=cdv) (A:=A) (outer:=outer) (E:=E) (s:=s) (H:=H);cases c with
    |true=>
     obtain rfl:=hm2 rfl;refine sB (k:=2*k) d.body (G:=⟨T,R,Ψ,.calm⟩) (S:=⟨T,scope,d.N⟩) { hK:=hK,hT:=rfl,sc:=rfl,N:=rfl,nd:=S.nd,pass:=cF hx,hd:=rfl,xst:=⟨_,_,_,rfl,rfl,rfl⟩,room:=hr,un:= ?_,tab:=tab,fns:=F1,fnsU:=λ_=>F2 rfl,xok:=hx,own:=PassesOwn.leaving,stk:=rfl,fr:=rfl,fn:=λ_=>rfl } hm;have:=hr.un;show(A.deeper _).units+200<cLine
     omega
    |false=>
     obtain rfl:=hm3 rfl;refine sB (k:=2*k) d.body (G:=⟨T,R,Ψ,.soft⟩) (S:=⟨T,scope,d.N⟩) { hK:=hK,hT:=rfl,sc:=rfl,N:=rfl,nd:=S.nd,pass:=cF hx,hd:=hh,xst:=⟨_,_,_,rfl,rfl,rfl⟩,room:=hr,un:= ?_,tab:=tab,fns:=F1,fnsU:=(λz=>by cases z),xok:=hx,own:=PassesOwn.leaving,stk:=rfl,fr:=rfl,fn:=λ_=>rfl } hm;have:=hr.un;show(A.deeper _).units+200<cLine
     omega
  refine⟨all true f .calm (bh T R k) (λvs H Q E h=>?_) rfl (λ_=>rfl) (λz=>by cases z) (λf' d' hd'=>(nz tab hK fs k f' d' hd').1) (λ_ f' d' hd'=>(nz tab hK fs k f' d' hd').2),all false (f+T.fns.length) .soft (λg=>bh T R k (g+T.fns.length)) (λvs H Q E h=>?_) rfl (λz=>by cases z) (λ_=>rfl) (λf' d' hd'=>(nz tab hK fs k f' d' hd').2) (λz=>by cases z)⟩
  .simp only[bh,hd]at h;exact h
  .simp only[bh,e1,e2]at h;exact h
abbrev hE (K:W.Frag)(n:Nat):Sp:=λvs H Q _=>∃ (a:Addr) (ns:List Int),vs=[.ref a]/\ba K H a (ns.map V.int)/\ns.length<=n/\∀ H',Q (.bl true) H'
variable {P:Program}
def wu {w:World}{H:Hp}{s:Shared}{e:Value}{s':Shared}(h:vz P w [] H s (λ_ _=>False) e s'):False:=by
 obtain⟨e,H',C,dx,fs,T,_,_,_,_,_,_,_,_,_,q⟩:=h;exact q
variable {K:W.Frag}{fd:FuncData}{ps:List Str}
def Eo (h:Binds K fd ps []):∀ j:Nat,∃ ds,Binds K fd ps ds/\Vals (([]:List V).drop j) ds:=λj=>⟨[],h,by simp;exact .nil⟩
def BG {ds:List Value}{T:Addr}{o:Obj}{items:Array Value}{c n:Nat}(hd:fd.defaults=.ref T)(ho:K.lookup T=some o)(hs:o.data=.seq items c)(hn:n+ds.length=ps.length)
  (h:∀ us:List Value,us.length=n->∃ k:Option (Array Value)->Sem (List (Str×Value)),bindArgs fd ⟨us,[]⟩=seqItems? fd.defaults >>= k/\k (some items)=pure (ps.zip (us++ds))):Binds K fd ps ds:=λs us X hl=>by
 obtain⟨k,h1,h2⟩:=h us (by rw[cr]at hl;omega);exact W.binds_K X hd ho hs h1 h2
def kP:∀ {vs:List V}{us:List Value}(j:Nat),Vals vs us->Vals (vs.drop j) (us.drop j)
 |_,_,0,h=>h
 |_,_,j+1,.nil=>by simp;exact .nil
 |_::_,_::_,j+1,.cons _ h=>by simpa using kP j h
def rq {α β:Type} [BEq α] [LawfulBEq α] {x:α}{y:β}:∀ {l:List (α×β)},l.lookup x=some y->(x,y) ∈ l
 | [],h=>by simp at h
 |(a,b)::l,h=>by
  rw[lookup_cons]at h;cases e:x ==a with
  |true=>
   rw[e]at h;have:=beq_iff_eq.mp e;subst this
   injection h with h
   subst h;exact lv
  |false=>
   rw[e]at h;exact dL _ (rq h)
def jY {α β:Type} [BEq α] [LawfulBEq α] {P:α->β->Prop}{l:List (α×β)}(h:∀ p ∈ l,P p.1 p.2):∀ x y,l.lookup x=some y->P x y:=λx y e=>h (x,y) (rq e)
def fQ {α β γ:Type} [BEq α] [LawfulBEq α] [BEq β] [LawfulBEq β] {P:α->β->γ->Prop}{l:List ((α×β)×γ)}(h:∀ p ∈ l,P p.1.1 p.1.2 p.2):∀ x y z,l.lookup (x,y)=some z->P x y z:=λx y z e=>h ((x,y),z) (rq e)
def g9 {α:Type} [BEq α] [LawfulBEq α] {P:α->Prop}{l:List α}(h:∀ p ∈ l,P p):∀ x,l.contains x=true->P x:=λx e=>h x (by simpa using e)
def y0 {α β:Type} [BEq α] [LawfulBEq α] [BEq β] [LawfulBEq β] {P:α->β->Prop}{l:List (α×β)}(h:∀ p ∈ l,P p.1 p.2):∀ x y,l.contains (x,y)=true->P x y:=λx y e=>h (x,y) (by simpa using e)
abbrev tG (P:Nat->ai->Prop):Nat->List ai->Prop
 |_,[]=>True
 |n,d::r=>P n d/\tG P (n+1) r
def Ci {P:Nat->ai->Prop}:∀ {l:List ai}{n:Nat},tG P n l->∀ f d,l[f]? =some d->P (n+f) d
 | [],_,_,f,d,e=>by simp at e
 |a::l,n,h,0,d,e=>by
  have:a=d:=by simpa using e
  subst this;exact h.1
 |a::l,n,h,f+1,d,e=>by
  have:=Ci h.2 f d (by simpa using e)
  rwa [Nat.add_assoc,Nat.add_comm 1 f]at this
def rC {P:Nat->ai->Prop}{l:List ai}(h:tG P 0 l):∀ f d,l[f]? =some d->P f d:=λf d e=>by
 have:=Ci h f d e
 rwa [Nat.zero_add]at this
def Fp {w:World}{mg:K3}{base:Heap}{T:Tab}{R:Rt}(tab:zm K mg T R)(hK:R.K=K)(fs:∀ f d,T.fns[f]? =some d->uW K T (R.fad f) d) (k fl:Nat) (d:ai) (hd:T.fns[fl]? =some d)
  {oc:Value}{od:Option Addr}{osl:Array (Option Value)}(lk:K.lookup (R.fad fl)=some ⟨oc,od,.func fd,osl⟩) (h:∀ vs H Q E,hE K 63 vs H Q E->bh T R k fl vs H Q E):cz true P w K mg base (vz P w) (2*k) (R.fad fl) fd d.ps (hE K 63):=
 ((nz tab hK fs k fl d hd).1.own _ _ _ _ lk).imp h
end L3
namespace L3
open PySem L2
abbrev kE:HO->HO
 | .lst _=>.lst []
 | .dK _=>.dK []
 | .dT _=>.dT []
 | .iJ _ (.dK _)=>.dK []
 | .ins C dx _=>.ins C dx []
 | .exc C _ _ _=>.exc C none [] false
 |o=>o
abbrev kd:HO->Option String
 | .lst _=>some "list"
 | .tup _=>some "tuple"
 | .dK _=>some "dict"
 | .iJ _ (.dK _)=>some "dict"
 |_=>none
def sL (o:HO):kd (kE o)=kd o:=by
 cases o<;>first|rfl|(rename_i u;cases u<;>rfl)
abbrev iI (H H':Hp):Prop:=∀ a o,H a=some o->∃ o',H' a=some o'/\kE o'=kE o
def iI.tup {H H':Hp}(g:iI H H'){t:Addr}{xs:List V}(h:H t=some (.tup xs)):H' t=some (.tup xs):=by
 obtain⟨o',h1,h2⟩:=g t _ h;have key:∀ u:HO,kE u=.tup xs->u=.tup xs:=λu=>by cases u<;>intro e<;>first|exact e|cases e|(rename_i v;cases v<;>cases e)
 rw[key o' h2]at h1;exact h1
variable {H:Hp}{t:String}
def iI.ty {H':Hp}(g:iI H H'){v:V}(h:tyName v H=some t):tyName v H'=some t:=by
 cases v<;>try exact h
 rename_i a;have h':(match H a with|some (.lst _)=>some "list"|some (.tup _)=>some "tuple"|some (.dK _)=>some "dict"|some (.iJ _ (.dK _))=>some "dict"|_=>none)=some t:=h;show(match H' a with|some (.lst _)=>some "list"|some (.tup _)=>some "tuple"|some (.dK _)=>some "dict"|some (.iJ _ (.dK _))=>some "dict"|_=>none)=some t;cases e:H a with
 |none=>rw[e]at h';cases h'
 |some o=>
  rw[e]at h';obtain⟨o',h1,h2⟩:=g a _ e;rw[h1];have key:kd o'=kd o:=by rw[<-sL o',<-sL o,h2]
  have k1:∀ u:HO,(match some u with|some (HO.lst _)=>some "list"|some (.tup _)=>some "tuple"|some (.dK _)=>some "dict"|some (.iJ _ (.dK _))=>some "dict"|_=>none)=kd u:=λu=>by cases u<;>first|rfl|(rename_i v;cases v<;>rfl)
  rw[k1]at h'⊢;rw[key];exact h'
variable {a:Addr}{xs:List V}
def Hy (e:H a=some (.lst xs)):tyName (.ref a) H=some "list":=by
 show(match H a with|some (.lst _)=>some "list"|some (.tup _)=>some "tuple"|some (.dK _)=>some "dict"|some (.iJ _ (.dK _))=>some "dict"|_=>none)=_;rw[e]
def IW (e:H a=some (.tup xs)):tyName (.ref a) H=some "tuple":=by
 show(match H a with|some (.lst _)=>some "list"|some (.tup _)=>some "tuple"|some (.dK _)=>some "dict"|some (.iJ _ (.dK _))=>some "dict"|_=>none)=_;rw[e]
def iI.upd {o o':HO}(h:H a=some o)(e:kE o'=kE o):iI H (L2.upd H a o'):=λb u hb=>by
 by_cases z:b=a
 .subst z;rw[h]at hb;cases hb;exact⟨o',av,e⟩
 .exact⟨u,(af z).trans hb,rfl⟩
def iI.new {o':HO}(h:H a=none):iI H (L2.upd H a o'):=λb u hb=>⟨u,(af λz=>by rw[z,h]at hb;cases hb).trans hb,rfl⟩
structure aj where
 p:Hp->(Addr->Prop)->Prop
 st:∀ H H' D,p H D->(∀ a,D a->H' a=H a)->iI H H'->p H' D
 up:∀ H D D',p H D->(∀ a,D a->D' a)->p H D'
abbrev pt (a:Addr)(o:HO):aj:=⟨λH D=>D a/\H a=some o,λH H' D h k _=>⟨h.1,(k a h.1).trans h.2⟩,λH D D' h k=>⟨k a h.1,h.2⟩⟩
abbrev tu (t:Addr)(xs:List V):aj:=⟨λH _=>H t=some (.tup xs),λH H' D h _ k=>k.tup h,λH D D' h _=>h⟩
abbrev tys (xs:List V):aj:=⟨λH _=>∀ x ∈ xs,∃ t,tyName x H=some t,λH H' D h _ k x hx=>let⟨t,e⟩:=h x hx;⟨t,k.ty e⟩,λH D D' h _=>h⟩
abbrev pu (φ:Prop):aj:=⟨λ_ _=>φ,λ_ _ _ h _ _=>h,λ_ _ _ h _=>h⟩
variable {α:Type}
abbrev ex (f:α->aj):aj:=⟨λH D=>∃ x,(f x).p H D,λH H' D ⟨x,h⟩ k t=>⟨x,(f x).st H H' D h k t⟩,λH D D' ⟨x,h⟩ k=>⟨x,(f x).up H D D' h k⟩⟩
abbrev nH (A B:aj):aj:=⟨λH D=>∃ D1 D2:Addr->Prop,(∀ a,D1 a->D a)/\(∀ a,D2 a->D a)/\(∀ a,D1 a->D2 a->False)/\A.p H D1/\B.p H D2,
 λH H' D ⟨D1,D2,s1,s2,dj,h1,h2⟩ k t=>⟨D1,D2,s1,s2,dj,A.st H H' D1 h1 (λa z=>k a (s1 a z)) t,B.st H H' D2 h2 (λa z=>k a (s2 a z)) t⟩,
 λH D D' ⟨D1,D2,s1,s2,dj,h1,h2⟩ k=>⟨D1,D2,λa z=>k a (s1 a z),λa z=>k a (s2 a z),dj,h1,h2⟩⟩
abbrev a8:List aj->Hp->(Addr->Prop)->Prop
 | [],_,_=>True
 |A::O,H,D=>∃ D1 D2:Addr->Prop,(∀ a,D1 a->D a)/\(∀ a,D2 a->D a)/\(∀ a,D1 a->D2 a->False)/\A.p H D1/\a8 O H D2
abbrev Sep (O:List aj)(H:Hp):Prop:=∃ D:Addr->Prop,(∀ a,D a->H a≠none)/\a8 O H D
inductive ae (A:aj):List aj->List aj->Prop where
 |e {O:List aj}:ae A (A::O) O
 |t {B:aj}{O Γ':List aj}(h:ae A O Γ'):ae A (B::O) (B::Γ')
variable {g:List aj}
section
variable {A B:aj}{O Γ':List aj}{H H':Hp}{a b p t:Addr}{o o':HO}{xs:List V}{φ:Prop}
def a8.st:∀ {O:List aj}{H H':Hp}{D:Addr->Prop},a8 O H D->(∀ a,D a->H' a=H a)->iI H H'->a8 O H' D
 | [],_,_,_,_,_,_=>True.intro
 |A::O,H,H',D,⟨D1,D2,s1,s2,dj,h1,h2⟩,k,t=>⟨D1,D2,s1,s2,dj,A.st H H' D1 h1 (λa z=>k a (s1 a z)) t,a8.st h2 (λa z=>k a (s2 a z)) t⟩
def a8.up:∀ {O:List aj}{H:Hp}{D D':Addr->Prop},a8 O H D->(∀ a,D a->D' a)->a8 O H D'
 | [],_,_,_,_,_=>True.intro
 |A::O,H,D,D',⟨D1,D2,s1,s2,dj,h1,h2⟩,k=>⟨D1,D2,λa z=>k a (s1 a z),λa z=>k a (s2 a z),dj,h1,h2⟩
def Sep.nil:Sep [] H:=⟨λ_=>False,λ_ z=>z.elim,True.intro⟩
def a8.pull:∀ {O Γ':List aj}{D:Addr->Prop},ae A O Γ'->a8 O H D->a8 (A::Γ') H D:=by
 intro O Γ' D h
 induction h generalizing D with
 |e=>exact λz=>z
 |t h ih=>
  rintro⟨D1,D2,s1,s2,dj,h1,h2⟩;obtain⟨E1,E2,t1,t2,ej,k1,k2⟩:=ih h2;refine⟨E1,λa=>D1 a\/E2 a,λa z=>s2 a (t1 a z),λa z=>z.elim (s1 a) λz=>s2 a (t2 a z),λa z1 z2=>?_,k1,D1,E2,λa z=>.inl z,λa z=>.inr z,λa z1 z2=>dj a z1 (t2 a z2),h1,k2⟩;rcases z2 with z2|z2
  .exact dj a z2 (t1 a z1)
  .exact ej a z1 z2
def Sep.pull (h:ae A O Γ')(s:Sep O H):Sep (A::Γ') H:=let⟨D,k,z⟩:=s;⟨D,k,a8.pull h z⟩
def a8.push:∀ {O Γ':List aj}{D:Addr->Prop},ae A O Γ'->a8 (A::Γ') H D->a8 O H D:=by
 intro O Γ' D h
 induction h generalizing D with
 |e=>exact λz=>z
 |t h ih=>
  rintro⟨D1,D2,s1,s2,dj,h1,E1,E2,t1,t2,ej,k1,k2⟩;refine⟨E1,λa=>D1 a\/E2 a,λa z=>s2 a (t1 a z),λa z=>z.elim (s1 a) λz=>s2 a (t2 a z),λa z1 z2=>?_,k1,ih ⟨D1,E2,λa z=>.inl z,λa z=>.inr z,λa z1 z2=>dj a z1 (t2 a z2),h1,k2⟩⟩;rcases z2 with z2|z2
  .exact dj a z2 (t1 a z1)
  .exact ej a z1 z2
def Sep.push (h:ae A O Γ')(s:Sep (A::Γ') H):Sep O H:=let⟨D,k,z⟩:=s;⟨D,k,a8.push h z⟩
def Sep.drop (s:Sep (A::O) H):Sep O H:=let⟨D,k,D1,D2,s1,s2,dj,h1,h2⟩:=s;⟨D2,λa z=>k a (s2 a z),h2⟩
def Sep.at (s:Sep (pt a o::O) H):H a=some o:=let⟨D,k,D1,D2,s1,s2,dj,h1,h2⟩:=s;h1.2
def Sep.atT (s:Sep (tu t xs::O) H):H t=some (.tup xs):=let⟨D,k,D1,D2,s1,s2,dj,h1,h2⟩:=s;h1
def Sep.pure (s:Sep (pu φ::O) H):φ:=let⟨D,k,D1,D2,s1,s2,dj,h1,h2⟩:=s;h1
def Sep.yo (h:φ)(s:Sep O H):Sep (pu φ::O) H:=let⟨D,k,h2⟩:=s;⟨D,k,λ_=>False,D,λ_ z=>z.elim,λ_ z=>z,λ_ z _=>z,h,h2⟩
def Sep.Iu (h:H t=some (.tup xs))(s:Sep O H):Sep (tu t xs::O) H:=let⟨D,k,h2⟩:=s;⟨D,k,λ_=>False,D,λ_ z=>z.elim,λ_ z=>z,λ_ z _=>z,h,h2⟩
def Sep.ne (s:Sep (pt a o::pt b o'::O) H):a≠b:=by
 obtain⟨D,k,D1,D2,s1,s2,dj,h1,E1,E2,t1,t2,ej,k1,k2⟩:=s;rintro rfl;exact dj a h1.1 (t1 a k1.1)
def Sep.set (s:Sep (pt a o::O) H)(n:kE o'=kE o):Sep (pt a o'::O) (upd H a o'):=by
 obtain⟨D,k,D1,D2,s1,s2,dj,h1,h2⟩:=s;refine⟨D,λb z=>?_,D1,D2,s1,s2,dj,⟨h1.1,av⟩,a8.st h2 (λb z=>af λe=>dj a h1.1 (e▸z)) (iI.upd h1.2 n)⟩
 by_cases e:b=a
 .rw[e,av];exact λz=>by cases z
 .rw[af e];exact k b z
def Sep.new (s:Sep O H)(h:H p=none):Sep (pt p o::O) (upd H p o):=by
 obtain⟨D,k,z⟩:=s;have ne:∀ b,D b->b≠p:=λb hb e=>k b hb (e▸h)
 refine⟨λb=>b=p\/D b,λb hb=>?_,λb=>b=p,D,λb e=>.inl e,λb e=>.inr e,λb e z=>ne b z e,⟨rfl,av⟩,a8.st z (λb hb=>af (ne b hb)) (iI.new h)⟩;rcases hb with rfl|hb
 .rw[av];exact λz=>by cases z
 .rw[af (ne b hb)];exact k b hb
def Sep.iK (s:Sep O H)(h:H p=none):Sep (tu p xs::O) (upd H p (.tup xs)):=Sep.Iu av (Sep.drop (s.new (o:=.tup xs) h))
def Sep.toT (s:Sep (pt t (.tup xs)::O) H):Sep (tu t xs::O) H:=Sep.Iu s.at s.drop
def Sep.star:Sep (nH A B::O) H ↔ Sep (A::B::O) H:=by
 constructor
 .rintro⟨D,k,D1,D2,s1,s2,dj,⟨E1,E2,t1,t2,ej,k1,k2⟩,h2⟩;refine⟨D,k,E1,λa=>E2 a\/D2 a,λa z=>s1 a (t1 a z),λa z=>z.elim (λz=>s1 a (t2 a z)) (s2 a),λa z1 z2=>?_,k1,E2,D2,λa z=>.inl z,λa z=>.inr z,λa z1 z2=>dj a (t2 a z1) z2,k2,h2⟩;rcases z2 with z2|z2
  .exact ej a z1 z2
  .exact dj a (t1 a z1) z2
 .rintro⟨D,k,D1,D2,s1,s2,dj,h1,E1,E2,t1,t2,ej,k1,k2⟩;refine⟨D,k,λa=>D1 a\/E1 a,E2,λa z=>z.elim (s1 a) λz=>s2 a (t1 a z),λa z=>s2 a (t2 a z),λa z1 z2=>?_,⟨D1,E1,λa z=>.inl z,λa z=>.inr z,λa z1 z2=>dj a z1 (t1 a z2),h1,k1⟩,k2⟩;rcases z1 with z1|z1
  .exact dj a z1 (t2 a z2)
  .exact ej a z1 z2
def Sep.FH {f:α->aj}:Sep (ex f::O) H ↔ ∃ x,Sep (f x::O) H:=by
 constructor
 .rintro⟨D,k,D1,D2,s1,s2,dj,⟨x,h1⟩,h2⟩;exact⟨x,D,k,D1,D2,s1,s2,dj,h1,h2⟩
 .rintro⟨x,D,k,D1,D2,s1,s2,dj,h1,h2⟩;exact⟨D,k,D1,D2,s1,s2,dj,⟨x,h1⟩,h2⟩
def Sep.FL (s:Sep (tys xs::O) H):∀ x ∈ xs,∃ t,tyName x H=some t:=let⟨D,k,D1,D2,s1,s2,dj,h1,h2⟩:=s;h1
def Sep.free (h:∀ D,A.p H D) (s:Sep O H):Sep (A::O) H:=let⟨D,k,h2⟩:=s;⟨D,k,λ_=>False,D,λ_ z=>z.elim,λ_ z=>z,λ_ z _=>z,h _,h2⟩
def Sep.GL (h:∀ x ∈ xs,∃ t,tyName x H=some t) (s:Sep O H):Sep (tys xs::O) H:=s.free λ_=>h
def Sep.get (s:Sep O H)(h:ae (pt a o) O Γ'):H a=some o:=(s.pull h).at
def Sep.fk (s:Sep O H)(h:ae (tu t xs) O Γ'):H t=some (.tup xs):=(s.pull h).atT
inductive aI (A B:aj):List aj->List aj->Prop where
 |e {O:List aj}:aI A B (A::O) (B::O)
 |t {C:aj}{O Γ':List aj}(h:aI A B O Γ'):aI A B (C::O) (C::Γ')
def ae.k1 {b:aj}:ae A (b::A::g) (b::g):=.t .e
def ae.k2 {b c:aj}:ae A (b::c::A::g) (b::c::g):=.t .k1
def ae.k3 {b c d:aj}:ae A (b::c::d::A::g) (b::c::d::g):=.t .k2
def ae.j2 {b c:aj}{f:List aj}(h:ae A g f):ae A (b::c::g) (b::c::f):=.t (.t h)
def aI.k1 {b:aj}:aI A B (b::A::g) (b::B::g):=.t .e
def aI.k2 {b c:aj}:aI A B (b::c::A::g) (b::c::B::g):=.t .k1
def aI.k3 {b c d:aj}:aI A B (b::c::d::A::g) (b::c::d::B::g):=.t .k2
def aI.j2 {b c:aj}{f:List aj}(h:aI A B g f):aI A B (b::c::g) (b::c::f):=.t (.t h)
def aI.bz (h:aI A B O Γ'):∃ Δ,ae A O Δ/\ae B Γ' Δ:=by
 induction h with
 |e=>exact⟨_,.e,.e⟩
 |t h ih=>
  obtain⟨Δ,h1,h2⟩:=ih;exact⟨_,.t h1,.t h2⟩
def Sep.put (s:Sep O H)(h:aI (pt a o) (pt a o') O Γ')(n:kE o'=kE o):Sep Γ' (upd H a o'):=by
 obtain⟨Δ,h1,h2⟩:=h.bz;exact((s.pull h1).set n).push h2
inductive Sub:List aj->List aj->Prop where
 |refl {O:List aj}:Sub O O
 |nil {O:List aj}:Sub [] O
 |cons {A:aj}{O Γ' Δ:List aj}(h:ae A O Δ) (r:Sub Γ' Δ):Sub (A::Γ') O
 |drop {A:aj}{O Γ':List aj}(r:Sub Γ' O):Sub Γ' (A::O)
def a8.sub:∀ {O Γ':List aj}{D:Addr->Prop},Sub Γ' O->a8 O H D->a8 Γ' H D:=by
 intro O Γ' D h
 induction h generalizing D with
 |refl=>exact λz=>z
 |nil=>exact λ_=>True.intro
 |cons h r ih=>
  intro z;obtain⟨D1,D2,s1,s2,dj,h1,h2⟩:=a8.pull h z;exact⟨D1,D2,s1,s2,dj,h1,ih h2⟩
 |drop r ih=>
  rintro⟨D1,D2,s1,s2,dj,h1,h2⟩;exact(ih h2).up s2
def Sep.sub (h:Sub Γ' O)(s:Sep O H):Sep Γ' H:=let⟨D,k,z⟩:=s;⟨D,k,a8.sub h z⟩
end
@[irreducible] noncomputable def aa (T:Tab) (R:Rt) (k f:Nat):Sp:=bh T R k f
def ji:aa=bh:=by
 funext T R k f
 unfold aa
 rfl
variable {vs:List V}{Q:VK}{E:XK}
def wc {T:Tab}{R:Rt}{k f:Nat}{d:ai}(hk:0<k)(hd:T.fns[f]? =some d)(hl:vs.length=d.ps.length)
  (h:wB d.body ⟨T,R,aa T R (k-1),.calm⟩ { nx:=λ_ H'=>Q .non H',rt:=Q } (λ_=>E) (start d.N vs) H):aa T R k f vs H Q E:=by
 rw[ji]at h⊢;cases k with
 |zero=>exact absurd hk (by decide)
 |succ k=>
  show(match T.fns[f]? with|some d=>_|none=>_);rw[hd];exact⟨hl,h⟩
def KJ {T:Tab}{R:Rt}{k f:Nat}{d:ai}(hk:0<k)(hd:T.fns[f]? =some d)(hl:vs.length=d.ps.length)
  (h:wB d.body ⟨T,R,λg=>aa T R (k-1) (g+T.fns.length),.soft⟩ { nx:=λ_ H'=>Q .non H',rt:=Q } (λ_=>E) (start d.N vs) H):aa T R k (f+T.fns.length) vs H Q E:=by
 rw[ji]at h⊢;cases k with
 |zero=>exact absurd hk (by decide)
 |succ k=>
  have e1:T.fns[f+T.fns.length]? =none:=getElem?_eq_none (Nat.le_add_left ..);have e2:T.fns[f+T.fns.length-T.fns.length]? =some d:=by rw[Nat.add_sub_cancel];exact hd
  show(match T.fns[f+T.fns.length]? with|some d=>_|none=>match T.fns[f+T.fns.length-T.fns.length]? with|some d=>_|none=>False);rw[e1,e2];exact⟨hl,h⟩
variable {c:Bool}
def gH {A B:Prop}(h1:c=true->A)(h2:c=false->B):ig c A B:=by
 unfold ig;cases c
 .exact h2 rfl
 .exact h1 rfl
def bj {A B:Prop}(h:c=true)(h1:A):ig c A B:=by subst h;unfold ig;exact h1
def aO {A B:Prop}(h:c=false)(h1:B):ig c A B:=by subst h;unfold ig;exact h1
def Di {A B:Prop}(h:ig c B A):ig (!c) A B:=by
 unfold ig at h⊢;cases c
 .exact h
 .exact h
def aK {p:Prop} [Decidable p] {A B:Prop}(h1:p->A)(h2:¬ p->B):ig (decide p) A B:=gH (λh=>h1 (of_decide_eq_true h)) λh=>h2 (of_decide_eq_false h)
def bc {i j:Int}{A B:Prop}(h1:i=j->A)(h2:i≠j->B):ig (lX (.int i) (.int j)) A B:=by
 show ig (i ==j) A B;exact gH (λh=>h1 (by simpa using h)) λh=>h2 (by simpa using h)
variable {dx:Option Addr}{n j:Nat}{fs:List (Str×V)}{es:List V}{R:It->Hp->Prop}{b:Bool}
section
variable {K:W.Frag}{G:Gx}{O Γ':List aj}{H:Hp}{Q:VK}{a p:Addr}{o:HO}{xs ys:List V}{v w:V}{i:Int}{f:Str}
def al (s:Sep O H)(h:∀ p H',Sep (pt p o::O) H'->Q (.ref p) H'):∀ p,H p=none->Q (.ref p) (upd H p o):=λp hp=>h p _ (s.new hp)
def gS {C x dx:Addr}(s:Sep O H)(h1:H x=none)(h2:H dx=none)(h3:dx≠x):Sep (pt x (.ins C dx [])::pt dx (.own x)::O) (upd (upd H dx (.own x)) x (.ins C dx [])):=(s.new h2).new (by rw[af h3.symm];exact h1)
def dU (s:Sep O H)(r:aI (pt a (.exc (G.R.cad n) dx fs true)) (pt a (.exc (G.R.cad n) dx fs false)) O Γ')(ho:G.T.xc.contains n=true)(h:∀ H',Sep Γ' H'->E a H'):
  ∃ b i dx fs,V.ref a=.ref b/\H b=some (.exc (G.R.cad i) dx fs true)/\G.T.xc.contains i=true/\E b (upd H b (.exc (G.R.cad i) dx fs false)):=by
 obtain⟨Δ,h1,h2⟩:=r.bz;exact⟨a,n,dx,fs,rfl,s.get h1,ho,h _ (s.put r rfl)⟩
def Kv (s:Sep O H)(h:∀ p H',Sep (tu p xs::O) H'->Q (.ref p) H'):∀ p,H p=none->Q (.ref p) (upd H p (.tup xs)):=λp hp=>h p _ (s.iK hp)
def mF (s:Sep O H)(hl:es.length<=10000)(h:∀ p H',Sep (pt p (.lst es)::O) H'->Q (.ref p) H'):Bs es H Q:=by unfold Bs;exact⟨hl,al s h⟩
def bq (s:Sep O H)(hl:es.length<=10000)(h:∀ p H',Sep (pt p (.tup es)::O) H'->Q (.ref p) H'):iK es H Q:=by unfold iK;exact⟨hl,al s h⟩
def pw {xs:List α}{x:α}(h:xs[j]? =some x):kU xs (0+(j:Int))=some x:=by rw[Int.zero_add];exact L2.cT h
def aP (e:H a=some (.lst xs))(hv:kU xs i=some v)(q:Q v H):qk K (.ref a) (.int i) H Q:=by unfold qk;exact .inl ⟨xs,i,v,rfl,.inl (ba.of e),hv,q⟩
def fK (e:H a=some (.tup xs))(hv:kU xs i=some v)(q:Q v H):qk K (.ref a) (.int i) H Q:=by unfold qk;exact .inl ⟨xs,i,v,rfl,.inr (aX.of e),hv,q⟩
def Cr {R:Hp->Prop}(s:Sep O H)(r:aI (pt a (.lst xs)) (pt a (.lst ys)) O Γ')(hj:xJ xs.length i=some j)(hx:xs.set j v=ys)(h:∀ H',Sep Γ' H'->R H'):mh (.ref a) (.int i) v H R:=by
 obtain⟨Δ,h1,h2⟩:=r.bz;subst hx;unfold mh;exact .inl ⟨xs,i,j,rfl,s.get h1,hj,h _ (s.put r rfl)⟩
def Hj (e:H a=some (.lst xs))(h0:0<=i)(hv:xs[i.toNat]? =some v)(q:Q v H):yE K (.ref a) (.int i) H Q:=by unfold yE;exact⟨xs,v,ba.of e,h0,hv,q⟩
def bL {dx:Addr}(e:H a=some (.ins (G.R.cad n) dx fs))(ho:G.T.oc.contains n=true)(hn:G.T.na.contains (n,f)=true)(hl:fs.lookup f=some v)(q:Q v H):nW G f (.ref a) H Q:=by unfold nW;exact⟨a,n,fs,v,rfl,.inl ⟨ho,dx,e⟩,hn,hl,q⟩
def Hn {dx:Addr}{fr:Bool}(e:H a=some (.exc (G.R.cad n) (some dx) fs fr))(ho:G.T.xc.contains n=true)(hn:G.T.na.contains (n,f)=true)(hl:fs.lookup f=some v)(q:Q v H):nW G f (.ref a) H Q:=by unfold nW;exact⟨a,n,fs,v,rfl,.inr ⟨ho,dx,fr,e⟩,hn,hl,q⟩
def Jn {dx:Addr}{fs':List (Str×V)}{R:Hp->Prop}(s:Sep O H)(r:aI (pt a (.ins (G.R.cad n) dx fs)) (pt a (.ins (G.R.cad n) dx fs')) O Γ')(ho:G.T.oc.contains n=true)(hn:G.T.na.contains (n,f)=true)(hl:fs.length<1000)(hf:cj f v fs=fs')(h:∀ H',Sep Γ' H'->R H'):Ad G f (.ref a) v H R:=by
 obtain⟨Δ,h1,h2⟩:=r.bz;subst hf;unfold Ad;exact⟨a,n,rfl,hn,.inl ⟨dx,fs,ho,s.get h1,hl,h _ (s.put r rfl)⟩⟩
def G1 {d:Addr}{fs':List (Str×V)}{R:Hp->Prop}(s:Sep O H)(r:aI (pt a (.exc (G.R.cad n) (some d) fs true)) (pt a (.exc (G.R.cad n) (some d) fs' true)) O Γ')(ho:G.T.xc.contains n=true)(hn:G.T.na.contains (n,f)=true)(hl:fs.length<1000)(hf:cj f v fs=fs')(h:∀ H',Sep Γ' H'->R H'):Ad G f (.ref a) v H R:=by
 obtain⟨Δ,h1,h2⟩:=r.bz;subst hf;unfold Ad;exact⟨a,n,rfl,hn,.inr (.inl ⟨d,fs,ho,s.get h1,hl,h _ (s.put r rfl)⟩)⟩
def sU {R:Hp->Prop}(s:Sep (pt a (.exc (G.R.cad n) none [] true)::O) H)(ho:G.T.xc.contains n=true)(hn:G.T.na.contains (n,f)=true)(h:∀ d H',Sep (pt a (.exc (G.R.cad n) (some d) [(f,v)] true)::pt d (.own a)::O) H'->R H'):Ad G f (.ref a) v H R:=by
 unfold Ad;refine⟨a,n,rfl,hn,.inr (.inr ⟨ho,s.at,λd hd=>h d _ ?_⟩)⟩;exact((s.new (o:=.own a) hd).pull (.t .e)).set rfl
def gf {n:String}(ht:tyName v H=some t)(hb:G.T.subB.lookup (t,n)=some b)(q:Q (.bl b) H):fZ G (.ty n) v H Q:=by unfold fZ;exact .inl ⟨t,b,ht,hb,q⟩
def Ht {fr:Bool}(e:H a=some (.exc (G.R.cad j) dx fs fr))(ho:G.T.xc.contains j=true)(hb:G.T.sub.lookup (j,n)=some b)(q:Q (.bl b) H):fZ G (.own n) (.ref a) H Q:=by unfold fZ;exact .inr ⟨a,j,b,rfl,.inr ⟨ho,dx,fs,fr,e⟩,hb,q⟩
def Er {n:String}{fr:Bool}(e:H a=some (.exc (G.R.cad j) dx fs fr))(ho:G.T.xc.contains j=true)(hb:G.T.subT.lookup (j,n)=some b)(q:Q (.bl b) H):fZ G (.ty n) (.ref a) H Q:=by unfold fZ;exact .inr ⟨a,j,b,rfl,.inr ⟨ho,dx,fs,fr,e⟩,hb,q⟩
def F9 {dx:Addr}(e:H a=some (.ins (G.R.cad j) dx fs))(ho:G.T.oc.contains j=true)(hb:G.T.sub.lookup (j,n)=some b)(q:Q (.bl b) H):fZ G (.own n) (.ref a) H Q:=by unfold fZ;exact .inr ⟨a,j,b,rfl,.inl ⟨ho,dx,fs,e⟩,hb,q⟩
def bR (e:H a=some (.lst xs))(q:Q (.int xs.length) H):qR G .len [.ref a] H Q:=by unfold qR;exact⟨_,xs.length,rfl,.inl ⟨xs,ba.of e,rfl⟩,q⟩
def vP {j:Int}(hc:G.cm=.calm)(q:Q (.int (min i j)) H):qR G .min [.int i,.int j] H Q:=by
 unfold qR;refine⟨hc,.inl ⟨i,j,rfl,?_⟩⟩;have e:(if j<i then j else i)=min i j:=by split<;>omega
 rw[e];exact q
def yG {j:Int}(hc:G.cm=.calm)(q:Q (.int (max i j)) H):qR G .max [.int i,.int j] H Q:=by
 unfold qR;refine⟨hc,.inl ⟨i,j,rfl,?_⟩⟩;have e:(if j>i then j else i)=max i j:=by split<;>omega
 rw[e];exact q
def Fm (h0:0<=i)(h1:i<n):xJ n i=some i.toNat:=by
 unfold xJ;rw[if_pos h0,if_pos h1]
def eC (s:Sep O H)(e:H a=some (.lst xs))(h:∀ p H',Sep (pt p (.lst xs)::O) H'->Q (.ref p) H'):qR G .list [.ref a] H Q:=by unfold qR;exact .inl ⟨_,xs,rfl,.inl (ba.of e),al s h⟩
def Es (s:Sep O H)(e:H a=some (.lst xs))(h:∀ p H',Sep (tu p xs::O) H'->Q (.ref p) H'):qR G .tuple [.ref a] H Q:=by unfold qR;exact⟨_,xs,rfl,.inl ⟨ba.of e,Kv s h⟩⟩
def yq (s:Sep O H){b:Addr}(e1:H a=some (.lst xs))(e2:H b=some (.lst ys))(hl:xs.length+ys.length<=100000)(h:∀ p H',Sep (pt p (.lst (xs++ys))::O) H'->Q (.ref p) H'):Bu K a b H Q:=by unfold Bu;exact .inl ⟨xs,ys,e1,e2,hl,al s h⟩
def Cv (s:Sep O H)(e:H a=some (.lst xs))(h1: -1000<=i)(h2:i<=1000)(h3:xs.length<=1000)(h:∀ p H',Sep (pt p (.lst (sK i.toNat xs).flatten)::O) H'->Q (.ref p) H'):A9 K a i H Q:=by unfold A9;exact .inl ⟨xs,e,h1,h2,h3,al s h⟩
def Ca {y:V}(s:Sep O H)(r:aI (pt a (.lst xs)) (pt a (.lst (xs++[y]))) O Γ')(hl:xs.length<=10000)(h:∀ H',Sep Γ' H'->Q .non H'):CW .append a xs [y] H Q:=by unfold CW;exact⟨_,rfl,hl,h _ (s.put r rfl)⟩
def IP {lo hi:Option Int}(s:Sep O H)(e:ba K H a xs)(h:∀ p H',Sep (pt p (.lst (pz xs lo hi))::O) H'->Q (.ref p) H'):FG K (.ref a) lo hi H Q:=by unfold FG;exact .inl ⟨xs,e,al s h⟩
def GS (e:H a=some (.lst xs))(h:R (Fu K a) H):qt K a H R:=by unfold qt;exact .inl ⟨⟨xs,ba.of e⟩,h⟩
def Dn (e:H a=some (.lst xs))(h:R (FV a) H):BF a H R:=by unfold BF;exact⟨⟨xs,e⟩,h⟩
def Jy (e:aX K H a xs)(h:R (HH K a) H):BC K a H R:=by unfold BC;exact⟨⟨xs,e⟩,h⟩
end
variable {x:V}
section
variable {K:W.Frag}{H:Hp}{Q:VK}
def jD (f:aG x=true):lX x x=true:=by
 cases x<;>simp[aG]at f<;>simp[lX]
def iW {y:V}(fx:aG x=true)(fy:aG y=true)(q:Q (.bl (lX x y)) H):dw K false x y H Q:=by unfold dw;exact .inr ⟨0,_,.flat fx fy,by decide,.inl fx,q⟩
def rX {y:V}(fx:aG x=true)(fy:aG y=true)(q:Q (.bl (!lX x y)) H):dw K true x y H Q:=by unfold dw;exact .inr ⟨0,_,.flat fx fy,by decide,.inl fx,q⟩
def Ey {b:Addr}(h:cg K H n (.ref a) (.ref b) c)(hn:n<=100)(ne:a≠b)(q:Q (.bl c) H):dw K false (.ref a) (.ref b) H Q:=by unfold dw;exact .inr ⟨n,c,h,hn,.inr (.inl λz=>ne (V.ref.inj z)),q⟩
def fL {b:Addr}(h:cg K H n (.ref a) (.ref b) c)(hn:n<=100)(ne:a≠b)(q:Q (.bl (!c)) H):dw K true (.ref a) (.ref b) H Q:=by unfold dw;exact .inr ⟨n,c,h,hn,.inr (.inl λz=>ne (V.ref.inj z)),q⟩
def ne_self (h:qo K H a)(q:Q (.bl false) H):dw K true (.ref a) (.ref a) H Q:=by unfold dw;exact .inr ⟨1,true,.same a,by decide,.inr (.inr (.inr ⟨rfl,a,rfl,h⟩)),q⟩
def aY (h:tyName x H=some t):cg K H (n+1) x x true:=by
 have key:aG x=true->cg K H (n+1) x x true:=λf=>by
  have:=cg.flat (K:=K) (H:=H) (n:=n+1) f f
  rwa [jD f]at this
 cases x<;>first|exact key rfl|exact .same _|(cases h)
def all_true (n:Nat):(List.range n).all (λ_=>true)=true:=by simp
def xQ {b:Addr}(h1:H a=some (.lst xs))(h2:H b=some (.lst xs))(h:∀ x ∈ xs,∃ t,tyName x H=some t):cg K H (n+2) (.ref a) (.ref b) true:=by
 have:=cg.ll (K:=K) (n:=n) (e:=λ_=>true) (ba.of h1) (ba.of h2) rfl λj x y e1 e2=>by
  rw[e1]at e2;cases e2;obtain⟨t,ht⟩:=h x (db e1);exact aY ht
 rwa [all_true]at this
def wL {b:Addr}{ys:List V}(h1:H a=some (.lst xs))(h2:H b=some (.lst ys))(hl:xs.length=ys.length)(h:∀ (j:Nat) x y,xs[j]? =some x->ys[j]? =some y->cg K H (n+1) x y true):cg K H (n+2) (.ref a) (.ref b) true:=by
 have:=cg.ll (K:=K) (n:=n) (e:=λ_=>true) (ba.of h1) (ba.of h2) hl h
 rwa [all_true]at this
def gR {b:Addr}{ys:List V}(h1:H a=some (.tup xs))(h2:H b=some (.tup ys))(hl:xs.length=ys.length)(h:∀ (j:Nat) x y,xs[j]? =some x->ys[j]? =some y->cg K H (n+1) x y true):cg K H (n+2) (.ref a) (.ref b) true:=by
 have:=cg.tt (K:=K) (n:=n) (e:=λ_=>true) (aX.of h1) (aX.of h2) h;rw[all_true,hl]at this;simpa using this
end
variable {K:W.Frag}{rest:St}
section
variable {D:Ends}{F:(St->Hp->Prop)->V->St->Hp->Prop}{U:St}{H:Hp}
def iX {lo:Int}(I:Nat->St->Hp->Prop)(h0:I 0 U H)(hs:∀ j U H,j<n->I j U H->F (I (j+1)) (.int (lo+j)) U H) (hd:∀ U H,I n U H->D.nx U H):fU (FD lo n) D F U H:=by
 unfold fU;refine⟨λi m U H=>m=n-i/\i<=n/\I i U H,⟨n,by simp,Nat.zero_le _,h0⟩,λi m U H ⟨e,hi,h⟩=>?_⟩
 by_cases hlt:i<n
 .refine .inr ⟨hlt,I (i+1),λσ' H' h'=>⟨n-(i+1),by omega,rfl,hlt,h'⟩,λx H' y=>?_⟩;obtain⟨rfl,rfl⟩:=y;exact hs i U H' hlt h
 .have:i=n:=by omega
  subst this;exact .inl ⟨re _,hd U H h⟩
def AB (I:Nat->St->Hp->Prop)(h0:I 0 U H)(hl:∀ j U H,I j U H->ba K H a xs)
  (hs:∀ j x U H,xs[j]? =some x->I j U H->F (I (j+1)) x U H) (hd:∀ U H,I xs.length U H->D.nx U H):fU (Fu K a) D F U H:=by
 unfold fU;refine⟨λi m U H=>m=xs.length-i/\i<=xs.length/\I i U H,⟨xs.length,by simp,Nat.zero_le _,h0⟩,λi m U H ⟨e,hi',h⟩=>?_⟩
 by_cases hlt:i<xs.length
 .refine .inr ⟨⟨xs,xs[i],hl i U H h,li hlt⟩,I (i+1),λσ' H' h'=>⟨xs.length-(i+1),by omega,rfl,hlt,h'⟩,λx H' y=>?_⟩;obtain⟨rfl,hy⟩:=y;exact hs i x U H' (hy xs (hl i U H' h)) h
 .have:i=xs.length:=by omega
  subst this;exact .inl ⟨⟨xs,hl _ U H h,re _⟩,hd U H h⟩
def lZ (I:Nat->St->Hp->Prop)(h0:I 0 U H)(hl:∀ j U H,I j U H->H a=some (.lst xs)) (hs:∀ j x T U H,xs[j]? =some x->I j U H->H T=none->F (I (j+1)) (.ref T) U (upd H T (.tup [.int j,x])))
  (hd:∀ U H,I xs.length U H->D.nx U H):fU (FV a) D F U H:=by
 unfold fU;refine⟨λi m U H=>m=xs.length-i/\i<=xs.length/\I i U H,⟨xs.length,by simp,Nat.zero_le _,h0⟩,λi m U H ⟨e,hi',h⟩=>?_⟩
 by_cases hlt:i<xs.length
 .refine .inr ⟨⟨xs,xs[i],hl i U H h,li hlt⟩,I (i+1),λσ' H' h'=>⟨xs.length-(i+1),by omega,rfl,hlt,h'⟩,λx H' y=>?_⟩;obtain⟨T,z,hT,rfl,rfl,hy⟩:=y;exact hs i z T U H (hy xs (hl i U H h)) h hT
 .have:i=xs.length:=by omega
  subst this;exact .inl ⟨⟨xs,hl _ U H h,re _⟩,hd U H h⟩
def BA (I:Nat->St->Hp->Prop)(h0:I 0 U H)(hl:∀ j U H,I j U H->aX K H a xs) (hs:∀ j x T U H,xs[j]? =some x->I j U H->H T=none->F (I (j+1)) (.ref T) U (upd H T (.tup [.int j,x])))
  (hd:∀ U H,I xs.length U H->D.nx U H):fU (HH K a) D F U H:=by
 unfold fU;refine⟨λi m U H=>m=xs.length-i/\i<=xs.length/\I i U H,⟨xs.length,by simp,Nat.zero_le _,h0⟩,λi m U H ⟨e,hi',h⟩=>?_⟩
 by_cases hlt:i<xs.length
 .refine .inr ⟨⟨xs,xs[i],hl i U H h,li hlt⟩,I (i+1),λσ' H' h'=>⟨xs.length-(i+1),by omega,rfl,hlt,h'⟩,λx H' y=>?_⟩;obtain⟨T,z,hT,rfl,rfl,hy⟩:=y;exact hs i z T U H (hy xs (hl i U H h)) h hT
 .have:i=xs.length:=by omega
  subst this;exact .inl ⟨⟨xs,hl _ U H h,re _⟩,hd U H h⟩
def yt {hi:Int}(I:Nat->St->Hp->Prop)(h0:I 0 U H)(hs:∀ j U H,j<n->I j U H->F (I (j+1)) (.int (hi-j)) U H) (hd:∀ U H,I n U H->D.nx U H):fU (GG hi n) D F U H:=by
 unfold fU;refine⟨λi m U H=>m=n-i/\i<=n/\I i U H,⟨n,by simp,Nat.zero_le _,h0⟩,λi m U H ⟨e,hi,h⟩=>?_⟩
 by_cases hlt:i<n
 .refine .inr ⟨hlt,I (i+1),λσ' H' h'=>⟨n-(i+1),by omega,rfl,hlt,h'⟩,λx H' y=>?_⟩;obtain⟨rfl,rfl⟩:=y;exact hs i U H' hlt h
 .have:i=n:=by omega
  subst this;exact .inl ⟨re _,hd U H h⟩
@[irreducible] noncomputable def vp (I:Addr->List V->Hp->Prop) (D:Addr) (ys:List V) (rest:St) (x:Option V):VK:=λv H3=>∃ zs,H3 D=some (.lst zs)/\zs.length<bn/\∃ ys2 x2,x::rest=x2::rest/\ys2.length=ys.length+1/\I D ys2 (upd H3 D (.lst (zs++[v])))
def vp.mk {I:Addr->List V->Hp->Prop}{D:Addr}{ys:List V}{x:Option V}{v:V}{H3:Hp}(h1:H3 D=some (.lst ys))(hl:ys.length<=999)(h2:I D (ys++[v]) (upd H3 D (.lst (ys++[v])))):vp I D ys rest x v H3:=
 by unfold vp;exact⟨ys,h1,cH nofun,ys++[v],x,rfl,by simp,h2⟩
def mY {te:TE}(hn:n<=1000)(I:Addr->List V->Hp->Prop)(h0:∀ D,H D=none->I D [] (upd H D (.lst [])))
  (hs:∀ D ys H',ys.length<n->I D ys H'->te (some (.int (0+(ys.length:Nat)))::rest) H' (vp I D ys rest (some (.int (0+(ys.length:Nat))))))
  (hd:∀ D ys H',ys.length=n->I D ys H'->Q (.ref D) H'):vm te (FD 0 n) (none::rest) H Q:=by
 unfold vm;intro D hD;refine⟨λi m σ' H'=>m=n-i/\i<=n/\∃ ys x0,σ'=x0::rest/\ys.length=i/\I D ys H',⟨n,by simp,Nat.zero_le _,[],none,rfl,rfl,h0 D hD⟩,λi m σ' H' ⟨e,hi,ys,x0,e1,e2,h⟩=>?_⟩;subst e1 e2
 by_cases hlt:ys.length<n
 .refine .inr ⟨hlt,λσ2 H2=>∃ ys2 x2,σ2=x2::rest/\ys2.length=ys.length+1/\I D ys2 H2,λσ2 H2 ⟨ys2,x2,f1,f2,f3⟩=>⟨n-(ys.length+1),by omega,rfl,hlt,ys2,x2,f1,f2,f3⟩,λx H'' y=>?_⟩;obtain⟨e1,e2⟩:=y;subst e1 e2;have z:=hs D ys H'' hlt h;unfold vp at z;exact z
 .have:ys.length=n:=by omega
  exact .inl ⟨Nat.le_of_eq this.symm,hd D ys H' this h⟩
def jJ (q:Q (.bl (decide (x=.non))) H):yX false x .non H Q:=by unfold yX;exact q
def i5 (q:Q (.bl (!decide (x=.non))) H):yX true x .non H Q:=by unfold yX;exact q
def Gv (e:aX K H a xs)(fx:aG x=true)(fs:xs.all aG=true)(q:Q (.bl (FA x xs)) H):GD K false x (.ref a) H Q:=by unfold GD;exact .inl ⟨xs,.inr e,fx,fs,q⟩
end
variable {kvs:List (Key×V)}
section
variable {K:W.Frag}{G:Gx}{O Γ':List aj}{H:Hp}{Q:VK}{a b:Addr}{xs ys:List V}{v:V}
def Jd {tp1 tp2:Bool}(h1:Sq K tp1 H a xs)(h2:Sq K tp2 H b ys)(h:R (Ir K tp1 a tp2 b) H):Ac K (.ref a) (.ref b) H R:=by unfold Ac;exact⟨tp1,a,tp2,b,rfl,rfl,⟨xs,h1⟩,⟨ys,h2⟩,h⟩
def Ai {D:Ends}{F:(St->Hp->Prop)->V->St->Hp->Prop}{U:St}{tp1 tp2:Bool}(I:Nat->St->Hp->Prop)(hn:xs.length=ys.length)(h0:I 0 U H)(hl:∀ j U H,I j U H->Sq K tp1 H a xs/\Sq K tp2 H b ys)
  (hs:∀ j x y T U H,xs[j]? =some x->ys[j]? =some y->I j U H->H T=none->F (I (j+1)) (.ref T) U (upd H T (.tup [x,y]))) (hd:∀ U H,I xs.length U H->D.nx U H):fU (Ir K tp1 a tp2 b) D F U H:=by
 unfold fU;refine⟨λi m U H=>m=xs.length-i/\i<=xs.length/\I i U H,⟨xs.length,by simp,Nat.zero_le _,h0⟩,λi m U H ⟨e,hi',h⟩=>?_⟩
 by_cases hlt:i<xs.length
 .obtain⟨g1,g2⟩:=hl i U H h;refine .inr ⟨⟨xs,ys,xs[i],ys[i]'(hn▸hlt),g1,g2,li hlt,li (hn▸hlt)⟩,I (i+1),λσ' H' h'=>⟨xs.length-(i+1),by omega,rfl,hlt,h'⟩,λx H' y=>?_⟩;obtain⟨T,z,z',hT,rfl,rfl,hy,hy'⟩:=y;exact hs i z z' T U H (hy xs g1) (hy' ys g2) h hT
 .have:i=xs.length:=by omega
  subst this;obtain⟨g1,g2⟩:=hl _ U H h;exact .inl ⟨⟨xs,ys,g1,g2,.inl (re _)⟩,hd U H h⟩
def Gn {tp1 tp2:Bool}{ks:List Key}(s:Sep O H)(h1:Sq K tp1 H a (ks.map kV))(h2:Sq K tp2 H b ys)(hn:ks.Nodup)(hl:ks.length=ys.length)(hz:ks.length<=1000)(h:∀ p H',Sep (pt p (.dK (ks.zip ys))::O) H'->Q (.ref p) H'):Gw K (.ref a) (.ref b) H Q:=by unfold Gw;exact⟨tp1,a,tp2,b,ks,ys,rfl,rfl,h1,h2,hn,hl,hz,al s h⟩
def qa {k:Key}(e:H a=some (.dK kvs))(hv:iP kvs k=some v)(q:Q v H):qk K (.ref a) (kV k) H Q:=by unfold qk;exact .inr (.inl ⟨v,.inl ⟨kvs,k,.inl e,rfl,hv.symm⟩,q⟩)
def Hf {kvs':List (Key×V)}{k:Key}{R:Hp->Prop}(s:Sep O H)(r:aI (pt a (.dK kvs)) (pt a (.dK kvs')) O Γ')(hl:kvs.length<=10000)(hx:putK kvs k v=kvs')(h:∀ H',Sep Γ' H'->R H'):mh (.ref a) (kV k) v H R:=by
 obtain⟨Δ,h1,h2⟩:=r.bz;subst hx;unfold mh;exact .inr ⟨_,.inl ⟨kvs,k,s.get h1,rfl,Nat.lt_of_le_of_lt hl (by decide),rfl⟩,h _ (s.put r rfl)⟩
def zM (s:Sep O H)(e:H a=some (.dK kvs))(h:∀ p H',Sep (pt p (.dK kvs)::O) H'->Q (.ref p) H'):qR G .dict [.ref a] H Q:=by unfold qR;exact⟨_,kvs,rfl,e,al s h⟩
def Et {te:TE}(hn:xs.length<=1000)(I:Addr->List V->Hp->Prop)(hl:∀ D ys H,I D ys H->aX K H a xs) (h0:∀ D,H D=none->I D [] (upd H D (.lst [])))
  (hs:∀ D ys x H',xs[ys.length]? =some x->I D ys H'->te (some x::rest) H' (vp I D ys rest (some x)))
  (hd:∀ D ys H',ys.length=xs.length->I D ys H'->Q (.ref D) H'):vm te (vo K a) (none::rest) H Q:=by
 unfold vm;intro D hD;refine⟨λi m σ' H'=>m=xs.length-i/\i<=xs.length/\∃ ys x0,σ'=x0::rest/\ys.length=i/\I D ys H',⟨xs.length,by simp,Nat.zero_le _,[],none,rfl,rfl,h0 D hD⟩,λi m σ' H' ⟨e,hi,ys,x0,e1,e2,h⟩=>?_⟩;subst e1 e2
 by_cases hlt:ys.length<xs.length
 .refine .inr ⟨⟨xs,xs[ys.length],hl D ys H' h,li hlt⟩,λσ2 H2=>∃ ys2 x2,σ2=x2::rest/\ys2.length=ys.length+1/\I D ys2 H2,λσ2 H2 ⟨ys2,x2,f1,f2,f3⟩=>⟨xs.length-(ys.length+1),by omega,rfl,hlt,ys2,x2,f1,f2,f3⟩,λx H'' y=>?_⟩;obtain⟨e1,hy⟩:=y;subst e1;have z:=hs D ys x H'' (hy xs (hl D ys H'' h)) h;unfold vp at z;exact z
 .have:ys.length=xs.length:=by omega
  exact .inl ⟨⟨xs,hl D ys H' h,Nat.le_of_eq this.symm⟩,hd D ys H' this h⟩
def Hm (e:aX K H a xs)(h:R (vo K a) H):qt K a H R:=by unfold qt;exact .inr (.inl ⟨⟨xs,e⟩,h⟩)
def vd {C:Addr}(s:Sep O H)(h:∀ x dx H',Sep (pt x (.ins C dx [])::pt dx (.own x)::O) H'->Q (.ref x) H'):xR C H Q:=by unfold xR;exact λx dx h1 h2 h3=>h x dx _ (gS s h1 h2 h3)
end
end L3
namespace L3
open PySem PySem.Spec PySem.W L2
variable {ps:List Str}
def xZ:∀ {us:List Value}{n:Str},us.length=ps.length->n ∈ ps->((ps.zip us).lookup n).isNone=false:=by
 induction ps with
 |nil=>intro us n _ h;cases h
 |cons p ps ih=>
  intro us n hl h;cases us with
  |nil=>cases hl
  |cons u us=>
   rw[zip_cons_cons,lookup_cons];cases e:n ==p with
   |true=>rfl
   |false=>
    rcases lw.mp h with rfl|h
    .rw[beq_self_eq_true]at e;cases e
    .exact ih (Nat.succ.inj hl) h
def qJ:∀ {ps:List Str}{us:List Value},ps.Nodup->us.length=ps.length->∀ {L:List (Str×Value)},(∀ n ∈ ps,L.lookup n=(ps.zip us).lookup n)->ps.filterMap (λn=>(L.lookup n).map (n,·))=ps.zip us
 | [],us,_,_,L,_=>rfl
 |p::ps,[],_,hl,L,_=>by cases hl
 |p::ps,u::us,nd,hl,L,hL=>by
  have h0:L.lookup p=some u:=by rw[hL p lv,zip_cons_cons,lookup_cons,beq_self_eq_true]
  rw[filterMap_cons,h0,zip_cons_cons];show(p,u)::_=_;rw[qJ (nodup_cons.mp nd).2 (Nat.succ.inj hl) (L:=L)];intro n hn;rw[hL n (dL _ hn),zip_cons_cons,lookup_cons];have:(n ==p)=false:=by
   cases e:n ==p with
   |false=>rfl
   |true=>
    have:=beq_iff_eq.mp e;subst this;exact absurd hn (nodup_cons.mp nd).1
  rw[this]
variable {fd:FuncData}
def oh (nd:ps.Nodup)(h1:fd.params.posonlyargs=[])(h2:fd.params.args.map (·.arg)=ps)(h3:fd.params.kwonlyargs=[])(h4:fd.params.vararg=none)(h5:fd.params.kwarg=none)(h6:fd.defaults=.none)(us:List Value)(hl:us.length=ps.length):
  bindArgs fd ⟨us,[]⟩=pure (ps.zip us):=by
 obtain⟨name,qual,⟨po,as,va,ko,kd,ka,df⟩,body,scope,glo,bV,dV,kV,doc,pm,an,cdv,ct,bu⟩:=fd;dsimp only at h1 h2 h3 h4 h5 h6;subst h1 h2 h3 h4 h5 h6;generalize hps:as.map (·.arg)=ps at nd hl⊢;have e1:seqItems? (Value.none)=(pure none:Sem (Option (Array Value))):=rfl;have e2:∀ f:Str->Bool,(∀ n ∈ ps,f n=false)->ps.filter f=[]:=λf h=>List.filter_eq_nil_iff.mpr λa ha=>by rw[h a ha];decide
 have e3:¬ (us.length>ps.length):=by omega
 have e4:=e2 (λn=>((ps.zip us).lookup n).isNone) λn hn=>xZ hl hn
 have e5:=qJ nd hl (L:=ps.zip us) λ_ _=>rfl
 unfold bindArgs;dsimp only[List.map_nil,nil_append,append_nil];rw[hps];simp[e1,e3,e4,e5]
abbrev gD (S:List (Str×Value))(x:Str×Value):List (Str×Value):=if(S.lookup x.1).isNone=true then S++[x] else S
def CC:∀ {L:List (Str×Value)}{S:List (Str×Value)},(∀ x ∈ L,(S.lookup x.1).isNone=false)->L.foldl gD S=S
 | [],_,_=>rfl
 |x::L,S,h=>by
  have h0:gD S x=S:=by
   unfold gD;rw[if_neg (by rw[h x lv];decide)]
  rw[foldl_cons,h0];exact CC λy hy=>h y (dL _ hy)
def CF:∀ {L:List (Str×Value)}{S:List (Str×Value)},(L.map (·.1)).Nodup->(∀ x ∈ L,S.lookup x.1=none)->L.foldl gD S=S++L
 | [],S,_,_=>by rw[append_nil];rfl
 |x::L,S,nd,h=>by
  have h0:gD S x=S++[x]:=by
   unfold gD;rw[if_pos (by rw[h x lv];rfl)]
  rw[map_cons]at nd;rw[foldl_cons,h0,CF (nodup_cons.mp nd).2]
  .rw[le];rfl
  .intro y hy;have hne:(y.1 ==x.1)=false:=by
    cases e:y.1 ==x.1 with
    |false=>rfl
    |true=>
     have e:=beq_iff_eq.mp e;exact absurd (List.mem_map_of_mem (f:=(·.1)) hy) (e▸(nodup_cons.mp nd).1)
   obtain⟨a,b⟩:=x;rw[List.lookup_append,h y (dL _ hy),lookup_cons,hne]
   rfl
def Cw {n:Str}:∀ {L:List (Str×Value)},(∀ x ∈ L,x.1≠n)->L.lookup n=none
 | [],_=>rfl
 |(a,b)::L,h=>by
  have:(n ==a)=false:=by
   cases e:n ==a with
   |false=>rfl
   |true=>exact absurd (beq_iff_eq.mp e).symm (h (a,b) lv)
  rw[lookup_cons,this];exact Cw λx hx=>h x (dL _ hx)
variable {A:List Str}{B:List Value}
def nh {x:Str×Value}(h:x ∈ A.zip B):x.1 ∈ A:=by
 obtain⟨a,b⟩:=x;exact(of_mem_zip h).1
def zip_map (h:A.length<=B.length):(A.zip B).map (·.1)=A:=List.map_fst_zip h
def mU {B:List Str}{us:List Value}(h:A.length=us.length):(A++B).zip us=A.zip us:=by
 have:=zip_append (l₁:=A) (l₂:=us) (r₁:=B) (r₂:=[]) h;rw[append_nil,List.zip_nil_right,append_nil]at this;exact this
def Aw {B:List Str}{us D1 D2:List Value}(nd:(A++B).Nodup)(h1:A.length=us.length)(h2:B.length=D2.length)(h3:D1.length<=A.length):
  (((A++B).drop (A.length-D1.length)).zip (D1++D2)).foldl gD ((A++B).zip us)=(A++B).zip (us++D2):=by
 have a:=CC (L:=(A.drop (A.length-D1.length)).zip D1) (S:=(A++B).zip us) λx hx=>by
  rw[mU h1];exact xZ h1.symm (List.mem_of_mem_drop (nh hx))
 have b:=CF (L:=B.zip D2) (S:=(A++B).zip us) (by rw[zip_map nofun];exact(List.nodup_append.mp nd).2.1) λx hx=>by
  refine Cw λy hy e=>?_
  rw[mU h1]at hy;exact(List.nodup_append.mp nd).2.2 y.1 (nh hy) x.1 (nh hx) e
 rw[List.drop_append_of_le_length nofun,zip_append (by rw[jp];omega),List.foldl_append,a,b,mU h1,zip_append h1]
def vY {us ds:List Value}(nd:ps.Nodup)(h1:us.length<=ps.length)(h2:ds.length<=ps.length)(h3:ps.length<=us.length+ds.length):
  ((ps.drop (ps.length-ds.length)).zip ds).foldl gD (ps.zip us)=ps.zip (us++ds.drop (us.length+ds.length-ps.length)):=by
 have nd2:(ps.take us.length++ps.drop us.length).Nodup:=by rw[take_append_drop];exact nd
 have:=Aw (A:=ps.take us.length) (B:=ps.drop us.length) (us:=us) (D1:=ds.take (us.length+ds.length-ps.length)) (D2:=ds.drop (us.length+ds.length-ps.length)) nd2 (by rw[dl];omega) (by rw[jp,jp];omega) (by rw[dl,dl];omega);rw[take_append_drop,take_append_drop,dl,dl]at this;rw[show min us.length ps.length-min (us.length+ds.length-ps.length) ds.length=ps.length-ds.length by omega]at this;exact this
def qg:∀ {L:List (Str×Value)}{S:List (Str×Value)},(forIn L S λx r=>(match x with|(name,d)=>if(r.lookup name).isNone=true then pure (ForInStep.yield (r++[(name,d)])) else pure (ForInStep.yield r):Sem (ForInStep (List (Str×Value)))))=pure (L.foldl gD S)
 | [],S=>by simp
 |(a,b)::L,S=>by
  rw[forIn_cons,foldl_cons,<-qg];unfold gD
  by_cases e:(S.lookup a).isNone=true
  .simp only[e,if_true,pure_bind]
  .simp only[e,if_false,pure_bind,Bool.false_eq_true]
def vB {T:Addr}{items:Array Value}(nd:ps.Nodup)(h1:fd.params.posonlyargs=[])(h2:fd.params.args.map (·.arg)=ps)(h3:fd.params.kwonlyargs=[])(h4:fd.params.vararg=none)(h5:fd.params.kwarg=none)(h6:fd.defaults=.ref T)(us:List Value)(l1:us.length<=ps.length)(l2:items.toList.length<=ps.length)(l3:ps.length<=us.length+items.toList.length):
  ∃ k:Option (Array Value)->Sem (List (Str×Value)),bindArgs fd ⟨us,[]⟩=seqItems? fd.defaults >>= k/\k (some items)=pure (ps.zip (us++items.toList.drop (us.length+items.toList.length-ps.length))):=by
 obtain⟨name,qual,⟨po,as,va,ko,kd,ka,df⟩,body,scope,glo,bV,dV,kV,doc,pm,an,cdv,ct,bu⟩:=fd;dsimp only at h1 h2 h3 h4 h5 h6;subst h1 h2 h3 h4 h5 h6;generalize hps:as.map (·.arg)=ps at nd l1 l2 l3⊢;have e2:∀ f:Str->Bool,(∀ n ∈ ps.take (ps.length-items.toList.length),f n=false)->(ps.take (ps.length-items.toList.length)).filter f=[]:=λf h=>List.filter_eq_nil_iff.mpr λa ha=>by rw[h a ha];decide
 have e3:¬ (us.length>ps.length):=by omega
 have ez:ps.zip us=(ps.take us.length).zip us:=by
  have:=mU (A:=ps.take us.length) (B:=ps.drop us.length) (us:=us) (by rw[dl];omega);rw[take_append_drop]at this;exact this
 have e4:=e2 (λn=>((ps.zip us).lookup n).isNone) λn hn=>by
  rw[ez];refine xZ (by rw[dl];omega) ?_;have:ps.take (ps.length-items.toList.length)=(ps.take us.length).take (ps.length-items.toList.length):=by rw[List.take_take,Nat.min_eq_left nofun]
  rw[this]at hn;exact List.mem_of_mem_take hn
 have e6:=vY (us:=us) (ds:=items.toList) nd l1 l2 l3;have e5:=qJ (us:=us++items.toList.drop (us.length+items.toList.length-ps.length)) nd (by rw[cr,jp];omega) λ_ _=>rfl
 have e7:items.toList.length-ps.length=0:=by omega
 unfold bindArgs;dsimp only[List.map_nil,nil_append,append_nil];rw[hps];refine⟨_,rfl,?_⟩;simp only[Option.getD_some,List.map_nil,nil_append,e7,drop_zero,e4,e3,List.isEmpty_nil,Bool.not_true,decide_false,Bool.false_and,Bool.false_eq_true,if_false,forIn_nil,append_nil];rw[qg,e6,pure_bind,pure_bind];simp only[e5,List.isEmpty_nil,Bool.not_true,Bool.false_eq_true,if_false]
abbrev CJ (x:Option (Option Value))(a:Addr):Bool:=match x with
 |some (some (.ref b))=>b ==a
 |_=>false
variable {x:Option (Option Value)}
def fq {a:Addr}(h:CJ x a=true):x=some (some (.ref a)):=by
 unfold CJ at h
 split at h
 .rw[beq_iff_eq.mp h]
 .cases h
abbrev sR (x:Option (Option Value))(a:String):Bool:=match x with
 |some (some (.builtin b))=>b ==a
 |_=>false
variable {a:String}
def bX (h:sR x a=true):x=some (some (.builtin a)):=by
 unfold sR at h
 split at h
 .rw[beq_iff_eq.mp h]
 .cases h
abbrev JH (x:Option Value)(a:String):Bool:=match x with
 |some (.type b)=>b ==a
 |_=>false
def Ep {x:Option Value}(h:JH x a=true):x=some (.type a):=by
 unfold JH at h
 split at h
 .rw[beq_iff_eq.mp h]
 .cases h
abbrev yb (x:Option (Option Value)):Bool:=match x with
 |some none=>true
 |_=>false
def mz (h:yb x=true):x=some none:=by
 unfold yb at h
 split at h
 .rfl
 .cases h
abbrev Ak (x:Option Bool)(b:Bool):Bool:=match x with
 |some c=>c ==b
 |none=>false
def dP {x:Option Bool}{b:Bool}(h:Ak x b=true):x=some b:=by
 unfold Ak at h
 split at h
 .rw[beq_iff_eq.mp h]
 .cases h
abbrev Jl (v:V)(x:Option (Option Value)):Bool:=match v,x with
 | .int i,some (some (.int j _))=>i ==j
 | .str s,some (some (.str s' _))=>s ==s'
 | .ref a,y=>CJ y a
 |_,_=>false
def Dg {v:V}(h:Jl v x=true):∃ u,x=some (some u)/\RelV v u:=by
 unfold Jl at h
 split at h
 .rw[<-beq_iff_eq.mp h];exact⟨_,rfl,_,rfl⟩
 .rw[<-beq_iff_eq.mp h];exact⟨_,rfl,_,rfl⟩
 .rw[fq h];exact⟨_,rfl,rfl⟩
 .cases h
section
variable (K:Frag) (C:Addr)
abbrev AM:Bool:=plainGet K C Str.empty&&(hasDictIn K C&&(plainOver K C&&sR (findIn K (.ref C) "__setattr__") "object.__setattr__"))
def tW {K:Frag}{C:Addr}(h:AM K C=true):Bo K C:=by
 unfold AM at h;simp only[mo]at h;exact⟨h.1,h.2.1,h.2.2.1,bX h.2.2.2⟩
abbrev Ae:Bool:=sR (findIn K (.ref C) "__class__") "object.__class__"&&(sR (specialIn K (.builtin "object.__class__") "__get__") "getset_descriptor.__get__"&&Ak (takesIn K (.builtin "object.__class__")) true)
abbrev nK:Bool:=JH (typeIn K (.ref C)) "type"&&((clsIn K C).any (λcd=>cX cd.mro)&&(hasDictIn K C&&(sR (findIn K (.ref C) "__getattribute__") "BaseException.__getattribute__"&&(yb (findIn K (.ref C) "__getattr__")&&sR (findIn K (.ref C) "__setattr__") "object.__setattr__"))))
def j6 {K:Frag}{C:Addr}(h:nK K C=true):ck K C:=by
 unfold nK at h;simp only[mo]at h;exact⟨Ep h.1,h.2.1,h.2.2.1,bX h.2.2.2.1,mz h.2.2.2.2.1,bX h.2.2.2.2.2⟩
end
abbrev all2 {α:Type}(l:List α)(p:α->Bool):Bool:=match l with
 | []=>true
 |a::r=>p a&&all2 r p
def ay {α:Type}{p:α->Bool}:∀ {l:List α},all2 l p=true->∀ a ∈ l,p a=true
 | [],_,_,h=>by cases h
 |a::r,h,b,hb=>by
  unfold all2 at h;rw[mo]at h;rcases lw.mp hb with rfl|hb
  .exact h.1
  .exact ay h.2 b hb
abbrev DZ (K:Frag)(fs cs:List Addr)(gs:List (Str×V)):Rt:=⟨K,λi=>fs.getD i 0,λi=>cs.getD i 0,λx=>gs.lookup x⟩
section
variable (K:Frag) (T:Tab) (fs cs:List Addr) (gs:List (Str×V))
abbrev zR:Bool:=
 (all2 T.gfn (λp=>CJ (nsIn K mainGlobals p.1) (fs.getD p.2 0)&&(keepIn K (.ref (fs.getD p.2 0))&&(T.fns[p.2]?).isSome))&&
 (all2 T.gcl (λp=>CJ (nsIn K mainGlobals p.1) (cs.getD p.2 0))&&
 (all2 T.gbl (λx=>yb (nsIn K mainGlobals x)&& !(x ==("__name__":Str)))&&
 (all2 T.gbi (λx=>match nsIn K mainGlobals x with
  |some (some (.ref B))=>sR (specialIn K (.ref B) "__getattribute__") "type.__getattribute__"&&(readsIn K B (.type "type")&&(match findCls K (.ref B) (.type "type") "__init__" with|some (.val (.builtin n))=>n =="ValueError.__init__"|_=>false))
  |_=>false)&&
 (all2 gs (λp=>Jl p.2 (nsIn K mainGlobals p.1))&&
 (all2 T.na (λp=>yb (findIn K (.ref (cs.getD p.1 0)) p.2))&&
 (all2 T.me (λp=>AM K (cs.getD p.1.1 0)&&(CJ (findIn K (.ref (cs.getD p.1.1 0)) p.1.2) (fs.getD p.2 0)&&(isFn K (.ref (fs.getD p.2 0))&&(keepIn K (.ref (fs.getD p.2 0))&&(T.fns[p.2]?).isSome)))))))))))&&
 (all2 T.ini0 (λc=>bK K (cs.getD c 0)&&(sR (findIn K (.ref (cs.getD c 0)) "__init__") "ValueError.__init__"&&(keepIn K (.ref (cs.getD c 0))&&nK K (cs.getD c 0))))&&
 (all2 T.inip (λc=>makesIn K (cs.getD c 0)&&(sR (findIn K (.ref (cs.getD c 0)) "__init__") "object.__init__"&&keepIn K (.ref (cs.getD c 0))))&&
 (all2 T.ini (λp=>(T.fns[p.2]?).isSome&&((if T.xc.contains p.1=true then bK K (cs.getD p.1 0) else makesIn K (cs.getD p.1 0))&&(CJ (findIn K (.ref (cs.getD p.1 0)) "__init__") (fs.getD p.2 0)&&(isFn K (.ref (fs.getD p.2 0))&&keepIn K (.ref (cs.getD p.1 0))))))&&
 (all2 T.oc (λc=>AM K (cs.getD c 0)&&(Ae K (cs.getD c 0)&&Ak (mroIn K (cs.getD c 0) (.type "object")) true))&&
 (all2 T.xc (λc=>nK K (cs.getD c 0)&&Ae K (cs.getD c 0))&&
 (all2 T.sub (λp=>Ak (kitOne K (.ref (cs.getD p.1.1 0)) (.ref (cs.getD p.1.2 0))) p.2&&(!T.xc.contains p.1.1||(Ak (mroIn K (cs.getD p.1.1 0) (.ref (cs.getD p.1.2 0))) p.2&&nK K (cs.getD p.1.2 0))))&&
 (all2 T.subT (λp=>Ak (kitOne K (.ref (cs.getD p.1.1 0)) (.type p.1.2)) p.2)&&
 (all2 T.subB (λp=>Ak (kitOne K (.type p.1.1) (.type p.1.2)) p.2)&&
 (all2 T.subO (λp=>Ak (kitOne K (.type p.1.1) (.ref (cs.getD p.1.2 0))) p.2)&&
  all2 T.cin (λp=>sR (specialIn K (.ref (cs.getD p.1 0)) "__getattribute__") "type.__getattribute__"&&(readsIn K (cs.getD p.1 0) (.type "type")&&((match findCls K (.ref (cs.getD p.1 0)) (.type "type") "__init__" with|some (.val (.ref f))=>f ==fs.getD p.2 0|_=>false)&&(keepIn K (.ref (fs.getD p.2 0))&&(T.fns[p.2]?).isSome)))))))))))))
end
def i4 {α:Type}{x:Option α}(h:x.isSome=true):∃ d,x=some d:=Option.isSome_iff_exists.mp h
variable {K:Frag}{T:Tab}{fs:List Addr}{gs:List (Str×V)}{mg:K3}
def AH {cs:List Addr}{h:Heap}(X:K.In h)(G:h.Ns mainGlobals mg)(z:zR K T fs cs gs=true):zm K mg T (DZ K fs cs gs):=by
 unfold zR at z;simp only[mo]at z;obtain⟨⟨z1,z2,z3,z4,z5,z6,z7⟩,z8,z9,z10,z11,z12,z13,z14,z15,z16,z17⟩:=z;exact {
  gfn:=jY λp hp=>by
   have:=ay z1 p hp;simp only[mo]at this;exact⟨mg_of X G (fq this.1),this.2.1,i4 this.2.2⟩
  gcl:=jY λp hp=>mg_of X G (fq (ay z2 p hp))
  gbl:=g9 λx hx=>by
   have:=ay z3 x hx;simp only[mo]at this;exact⟨mg_none_of X G (mz this.1),by simpa using this.2⟩
  gbi:=g9 λx hx=>by
   have:=ay z4 x hx
   split at this
   .rename_i B e;simp only[mo]at this;refine⟨B,mg_of X G e,bX this.1,this.2.1,?_⟩;have t:=this.2.2
    split at t
    .rename_i n e2;rw[e2,beq_iff_eq.mp t]
    .cases t
   .cases this
  gl:=jY λp hp=>by
   obtain⟨u,e,r⟩:=Dg (ay z5 p hp);exact⟨u,mg_of X G e,r⟩
  na:=y0 λp hp=>mz (ay z6 p hp)
  me:=fQ λp hp=>by
   have:=ay z7 p hp;simp only[mo]at this;exact⟨tW this.1,⟨fq this.2.1,this.2.2.1,this.2.2.2.1⟩,i4 this.2.2.2.2⟩
  ini0:=g9 λc hc=>by
   have:=ay z8 c hc;simp only[mo]at this;exact⟨this.1,bX this.2.1,this.2.2.1,j6 this.2.2.2⟩
  inip:=g9 λc hc=>by
   have:=ay z9 c hc;simp only[mo]at this;exact⟨this.1,bX this.2.1,this.2.2⟩
  ini:=jY λp hp=>by
   have:=ay z10 p hp;simp only[mo]at this;refine⟨i4 this.1,?_⟩;have t:=this.2
   by_cases e:T.xc.contains p.1=true
   .rw[if_pos e]at t⊢;exact⟨t.1,fq t.2.1,t.2.2.1,t.2.2.2⟩
   .rw[if_neg e]at t⊢;exact⟨t.1,fq t.2.1,t.2.2.1,t.2.2.2⟩
  oc:=g9 λc hc=>by
   have:=ay z11 c hc;simp only[Ae,mo]at this;exact⟨tW this.1,bX this.2.1.1,bX this.2.1.2.1,dP this.2.1.2.2,dP this.2.2⟩
  xc:=g9 λc hc=>by
   have:=ay z12 c hc;simp only[Ae,mo]at this;exact⟨j6 this.1,bX this.2.1,bX this.2.2.1,dP this.2.2.2⟩
  sub:=fQ λp hp=>by
   have:=ay z13 p hp;simp only[mo]at this;refine⟨dP this.1,λe=>?_⟩;have t:=this.2;rw[e,Bool.not_true,Bool.false_or,mo]at t;exact⟨dP t.1,j6 t.2⟩
  subT:=fQ λp hp=>dP (ay z14 p hp)
  subB:=fQ λp hp=>dP (ay z15 p hp)
  subO:=fQ λp hp=>dP (ay z16 p hp)
  cin:=jY λp hp=>by
   have:=ay z17 p hp;simp only[mo]at this;refine⟨⟨bX this.1,this.2.1,?_,this.2.2.2.1⟩,i4 this.2.2.2.2⟩;have t:=this.2.2.1
   split at t
   .rename_i f e2;rw[beq_iff_eq.mp t]at e2;exact e2
   .cases t }
abbrev Im:List Str->Bool
 | []=>true
 |a::r=>!r.contains a&&Im r
def xx:∀ {l:List Str},Im l=true->l.Nodup
 | [],_=>List.nodup_nil
 |a::r,h=>by
  unfold Im at h;rw[mo]at h;exact nodup_cons.mpr ⟨by simpa using h.1,xx h.2⟩
abbrev Iz (N P:List Str)(sc:Scope):Bool:=decide (sc.kind=.function)&&(!sc.isCoroutine&&(!sc.isGenerator&&(Im N&&(N.take P.length ==P&&(all2 P (λx=>match sc.names.lookup x with|some .local=>true|some .cell=>true|_=>false)&&all2 sc.names (λy=>match y.2 with| .free=>false|_=>true))))))
def qw {N P:List Str}{sc:Scope}(h:Iz N P sc=true):i7 N P sc:=by
 unfold Iz at h;simp only[mo,decide_eq_true_eq]at h;refine⟨h.1,by simpa using h.2.1,by simpa using h.2.2.1,xx h.2.2.2.1,beq_iff_eq.mp h.2.2.2.2.1,λx hx=>?_,λy hy e=>?_⟩
 .have:=ay h.2.2.2.2.2.1 x hx
  split at this
  .rename_i e;exact .inl e
  .rename_i e;exact .inr e
  .cases this
 .have:=ay h.2.2.2.2.2.2 y hy;rw[e]at this;cases this
abbrev IU:V->Value->Bool
 | .non,.none=>true
 | .bl b,.bool c=>b ==c
 | .int i,.int j _=>i ==j
 | .str s,.str s' _=>s ==s'
 |_,_=>false
def EK {v:V}{u:Value}(h:IU v u=true):RelV v u:=by
 unfold IU at h
 split at h
 .rfl
 .rw[beq_iff_eq.mp h];rfl
 .rw[beq_iff_eq.mp h];exact⟨_,rfl⟩
 .rw[beq_iff_eq.mp h];exact⟨_,rfl⟩
 .cases h
abbrev yK:List V->List Value->Bool
 | [],[]=>true
 |v::vs,u::us=>IU v u&&yK vs us
 |_,_=>false
def mZ:∀ {vs:List V}{us:List Value},yK vs us=true->Vals vs us
 | [],[],_=>.nil
 |v::vs,u::us,h=>by
  unfold yK at h;rw[mo]at h;exact .cons (EK h.1) (mZ h.2)
 | [],_::_,h=>by cases h
 |_::_,[],h=>by cases h
abbrev Jc (K:Frag)(fd:FuncData)(d:ai):Bool:=match fd.defaults with
 | .none=>d.dfl.isEmpty
 | .ref T=>!d.dfl.isEmpty&&(match K.lookup T with
  |some o=>(match o.data with| .seq items _=>yK d.dfl items.toList&&decide (items.toList.length<=d.ps.length)|_=>false)
  |none=>false)
 |_=>false
abbrev B5 (K:Frag)(T:Tab)(f:Addr)(d:ai):Bool:=match K.lookup f with
 |some ⟨_,_,.func fd,_⟩=>(match fd.body with
  | .stmts body=>decide (fd.globals=mainGlobals)&&(fd.closure.isEmpty&&(decide (fd.builtins=builtinsNs)&&(codeIn K fd.code fd.qualname&&(Iz d.N d.ps fd.scope&&(mB ⟨T,fd.scope,d.N⟩ d.body body&&
   (fd.params.posonlyargs.isEmpty&&(fd.params.args.map (·.arg) ==d.ps&&(fd.params.kwonlyargs.isEmpty&&(fd.params.vararg.isNone&&(fd.params.kwarg.isNone&&Jc K fd d))))))))))
  |_=>false)
 |_=>false
variable {d:ai}
def E6 {f:Addr}(h:B5 K T f d=true):uW K T f d:=by
 unfold B5 at h
 split at h
 .rename_i oc od fd sl e;obtain⟨name,qual,params,body,scope,glo,bV,dV,kV,doc,pm,an,cdv,ct,bu⟩:=fd;dsimp only at h
  split at h
  .rename_i body;simp only[mo,decide_eq_true_eq,isEmpty_iff,Option.isNone_iff_eq_none]at h;obtain⟨h1,h2,h3,h4,h5,h6,h7,h8,h9,h10,h11,h12⟩:=h;subst h1 h2 h3;have S:=qw h5;have nd:d.ps.Nodup:=by
    rw[<-S.pre];exact S.nd.sublist (take_sublist _ _)
   refine⟨⟨name,qual,params,body,scope,dV,kV,doc,pm,cdv,ct,oc,od,an,sl,e,h4,S,h6,?_⟩⟩;unfold Jc at h12;dsimp only at h12
   split at h12
   .rw[isEmpty_iff.mp h12];exact Eo (.all λus hl=>oh nd h7 (beq_iff_eq.mp h8) h9 h10 h11 rfl us hl)
   .rename_i T0;rw[mo]at h12;have h12:=h12.2
    split at h12
    .rename_i o ho
     split at h12
     .rename_i items c hs;rw[mo,decide_eq_true_eq]at h12;intro j;refine⟨items.toList.drop j,?_,kP j (mZ h12.1)⟩;refine BG (n:=d.ps.length-(items.toList.drop j).length) rfl ho hs (by rw[jp];omega) λus hl=>?_
      rw[jp]at hl;obtain⟨k,k1,k2⟩:=vB (fd:=fnOf name qual params body scope (.ref T0) kV doc pm an cdv ct) (items:=items) nd h7 (beq_iff_eq.mp h8) h9 h10 h11 rfl us nofun h12.2 nofun;refine⟨k,k1,?_⟩;rw[k2]
      by_cases e:j<=items.toList.length
      .rw[show us.length+items.toList.length-d.ps.length=j by omega]
      .rw[show us.length+items.toList.length-d.ps.length=items.toList.length by omega,List.drop_length,List.drop_eq_nil_of_le (by omega:items.toList.length<=j)]
     .cases h12
    .cases h12
   .cases h12
  .cases h
 .cases h
abbrev kh (K:Frag)(T:Tab)(fs:List Addr):Nat->List ai->Bool
 |_,[]=>true
 |n,d::r=>B5 K T (fs.getD n 0) d&&kh K T fs (n+1) r
def sC {K:Frag}{T:Tab}{fs:List Addr}:∀ {l:List ai}{n:Nat},kh K T fs n l=true->tG (λf d=>uW K T (fs.getD f 0) d) n l
 | [],_,_=>True.intro
 |d::r,n,h=>by
  unfold kh at h;rw[mo]at h;exact⟨E6 h.1,sC h.2⟩
def zw (h:kh K T fs 0 T.fns=true):∀ f d,T.fns[f]? =some d->uW K T (fs.getD f 0) d:=rC (P:=λf d=>uW K T (fs.getD f 0) d) (sC h)
def sY {K:Frag}{T:Tab}{fs:List Addr}:∀ {l:List ai}{n f:Nat}{d:ai},kh K T fs n l=true->l[f]? =some d->B5 K T (fs.getD (n+f) 0) d=true
 | [],_,_,_,_,e=>by simp at e
 |a::r,n,0,d,h,e=>by
  unfold kh at h;rw[mo]at h;have:a=d:=by simpa using e
  subst this;exact h.1
 |a::r,n,f+1,d,h,e=>by
  unfold kh at h;rw[mo]at h;have:=sY h.2 (f:=f) (d:=d) (by simpa using e)
  rwa [Nat.add_assoc,Nat.add_comm 1 f]at this
def zp {fl:Nat}(z:kh K T fs 0 T.fns=true)(hd:T.fns[fl]? =some d)(hp:d.ps=[("_law_script":Str)]) (hf:d.dfl=[]):
  ∃ oc od fd sl,K.lookup (fs.getD fl 0)=some ⟨oc,od,.func fd,sl⟩/\∀ (s:Shared) (v:Value),BindsTo s fd ⟨[v],[]⟩ [("_law_script",v)]:=by
 have h:=sY z hd;rw[Nat.zero_add]at h;unfold B5 at h
 split at h
 .rename_i oc od fd sl e;refine⟨oc,od,fd,sl,e,λs v=>?_⟩
  split at h
  .rename_i body hb;simp only[mo,decide_eq_true_eq,isEmpty_iff,Option.isNone_iff_eq_none]at h;obtain⟨h1,h2,h3,h4,h5,h6,h7,h8,h9,h10,h11,h12⟩:=h;have nd:d.ps.Nodup:=by
    rw[<-(qw h5).pre];exact(qw h5).nd.sublist (take_sublist _ _)
   unfold Jc at h12;rw[hf]at h12;have e6:fd.defaults=.none:=by
    split at h12
    .rename_i e;exact e
    .rw[mo]at h12;cases h12.1
    .cases h12
   have:=oh nd h7 (beq_iff_eq.mp h8) h9 h10 h11 e6 [v] (by rw[hp];rfl);rw[hp]at this;exact .of_eq this
  .cases h
 .cases h
def zK {P:Program}{w:World}{h:Heap}{fa:Addr}{cs:List Addr}{fl k:Nat}(X:K.In h)(G:h.Ns mainGlobals mg)(hfa:mg "law"=some (.ref fa))
  (z1:zR K T fs cs gs=true) (z2:kh K T fs 0 T.fns=true) (z3:CJ (nsIn K mainGlobals "law") (fs.getD fl 0)=true) (hd:T.fns[fl]? =some d) (hp:d.ps=[("_law_script":Str)]) (hf:d.dfl=[])
  (ht:∀ vs H Q E,hE K 63 vs H Q E->aa T (DZ K fs cs gs) k fl vs H Q E):
  ∃ fd:FuncData,(∀ (s:Shared) (v:Value),BindsTo s fd ⟨[v],[]⟩ [("_law_script",v)])/\∀ base:Heap,K.In base->base.Ns mainGlobals mg->cz true P w K mg base (vz P w) (2*k) fa fd ["_law_script"] (hE K 63):=by
 have e0:fs.getD fl 0=fa:=by
  have e:=hfa.symm.trans (mg_of X G (fq z3))
  injection e with e
  injection e with e
  exact e.symm
 have fn:=zw z2;have tk:=AH X G z1;have N:=fn fl d hd;have hN:=zp z2 hd;obtain⟨oc,od,fd,sl,e,hb⟩:=hN hp hf;refine⟨fd,hb,λbase hb hg=>?_⟩;have F:=Fp (P:=P) (w:=w) (base:=base) (R:=DZ K fs cs gs) tk rfl fn k fl d hd (fd:=fd) (lk:=e) (ji▸ht);rw[hp]at F;rw[<-e0];exact F
abbrev Kf (K:Frag)(a:Addr)(vs:List V):Bool:=match K.lookup a with
 |some ⟨.type t,_,.seq items _,_⟩=>t =="tuple"&&(decide (items.size<=1000)&&yK vs items.toList)
 |_=>false
def EM {a:Addr}{vs:List V}(h:Kf K a vs=true)(H:Hp):aX K H a vs:=by
 unfold Kf at h
 split at h
 .rename_i t od items n sl e;simp only[mo,decide_eq_true_eq]at h;refine .inr ⟨_,items,n,e,?_,rfl,?_,mZ h.2.2⟩
  .show Value.type t=_;rw[beq_iff_eq.mp h.1]
  .exact Nat.le_of_lt (cH h.2.1)
 .cases h
end L3
namespace L3
open PySem L2
noncomputable abbrev ft.c (e:Ex)(r:ft):ft:=.cons e r
noncomputable abbrev ft.n:ft:=.nil
noncomputable abbrev j9.c (e:Sx)(r:j9):j9:=.cons e r
noncomputable abbrev j9.n:j9:=.nil
noncomputable abbrev yU.c (a b:Nat)(e:j9)(r:yU):yU:=.cons a b e r
noncomputable abbrev yU.n:yU:=.nil
noncomputable abbrev Ex.i (x:Int):Ex:=.int x
noncomputable abbrev Ex.s (x:Str):Ex:=.str x
noncomputable abbrev Ex.k (x:Nat)(e:ft):Ex:=.call x e
noncomputable abbrev Ex.m (a:Ex)(x:Str)(e:ft):Ex:=.meth a x e
noncomputable abbrev Ex.f (c:Tx)(a b:Ex):Ex:=.ife c a b
noncomputable abbrev Ex.q (o:CmpOp)(a b:Ex):Ex:=.cmp o a b
noncomputable abbrev Tx.q (o:CmpOp)(a b:Ex):Tx:=.cmp o a b
noncomputable abbrev Sx.a (x:Nat)(e:Ex):Sx:=.asg x e
noncomputable abbrev Sx.r (e:Ex):Sx:=.ret e
noncomputable abbrev Sx.f (c:Tx)(a b:j9):Sx:=.ife c a b
noncomputable abbrev Sx.e (e:Ex):Sx:=.expr e
end L3
set_option Elab.async false
set_option maxHeartbeats 8000000
open PySem PySem.Spec L2 L3
namespace My
open PySem L2 L3
set_option hygiene false
local macro_rules|`(#[])=>`(.n)|`(#[$x:term])=>`(.c $x .n)|`(#[$x:term,$xs:term,*])=>`(.c $x #[$xs,*])
set_option hygiene true
abbrev cb:ai:=⟨["self","at"],["self","at"],[],#[.e (.bini #[.v 0,.s "no list of 1 to 60 contents"]),.fld (.v 0) "at" (.v 1)]⟩
abbrev dr:ai:=⟨["self","deed","cell"],["self","deed","cell"],[],#[.e (.bini #[.v 0,.s "a cell that is not there, or may not be looked at or put"]),.fld (.v 0) "deed" (.v 1),.fld (.v 0) "cell" (.v 2)]⟩
abbrev cC:ai:=⟨["self","box","number"],["self","box","number"],[],#[.e (.bini #[.v 0,.s "a box can't hold this"]),.fld (.v 0) "box" (.v 1),.fld (.v 0) "number" (.v 2)]⟩
abbrev gO:ai:=⟨["self","box"],["self","box"],[],#[.e (.bini #[.v 0,.s "no box of that name"]),.fld (.v 0) "box" (.v 1)]⟩
abbrev gk:ai:=⟨["self","word"],["self","word"],[],#[.e (.bini #[.v 0,.s "a deed can't be made of this"]),.fld (.v 0) "word" (.v 1)]⟩
abbrev gh:ai:=⟨["self","at"],["self","at"],[],#[.e (.bini #[.v 0,.s "no list of 1 to 24 deeds"]),.fld (.v 0) "at" (.v 1)]⟩
abbrev fM:ai:=⟨["self","at"],["self","at"],[],#[.e (.bini #[.v 0,.s "no place to stand at"]),.fld (.v 0) "at" (.v 1)]⟩
abbrev bO:ai:=⟨["self","at"],["self","at"],[],#[.e (.bini #[.v 0,.s "a deed that looks at a cell for its way"]),.fld (.v 0) "at" (.v 1)]⟩
abbrev jv:ai:=⟨["thing"],["thing"],[],#[.r (.and (.isi (.v 0) (.ty "int")) (.not (.isi (.v 0) (.ty "bool"))))]⟩
abbrev gB:ai:=⟨["thing"],["thing"],[],#[.r (.and (.k 8 #[.v 0]) (.cmp2 .LtE .LtE (.i 0) (.v 0) (.gl "BOUND")))]⟩
abbrev jN:ai:=⟨["thing"],["thing"],[],#[.r (.and (.isi (.v 0) (.ty "str")) (.q .In (.v 0) (.gl "NAMES")))]⟩
abbrev iA:ai:=⟨["thing"],["thing"],[],#[.r (.and (.k 8 #[.v 0]) (.cmp2 .LtE .LtE (.neg (.gl "BOUND")) (.v 0) (.gl "BOUND")))]⟩
abbrev yJ:ai:=⟨["box","thing"],["box","thing"],[],#[.f (.or (.q .Eq (.v 0) (.s "here")) (.q .Eq (.v 0) (.s "there"))) #[.r (.k 11 #[.v 1])] .n,.f (.q .Eq (.v 0) (.s "way")) #[.r (.and (.k 8 #[.v 1]) (.or (.q .Eq (.v 1) (.i 1)) (.q .Eq (.v 1) (.neg (.i 1)))))] .n,.f (.q .Eq (.v 0) (.s "met")) #[.r (.and (.k 8 #[.v 1]) (.or (.q .Eq (.v 1) (.i 0)) (.q .Eq (.v 1) (.i 1))))] .n,.r (.k 9 #[.v 1])]⟩
abbrev cN:ai:=⟨["self","here","there","left","way","sign","met"],["self","here","there","left","way","sign","met","handed","box","number"],[.int 0,.int 0,.int 0,.int 1,.int 0,.int 0],#[.a 7 (.tup #[.v 1,.v 2,.v 3,.v 4,.v 5,.v 6]),.for (.tp [8,9]) (.zip (.gl "NAMES") (.v 7)) #[.f (.not (.val (.k 12 #[.v 8,.v 9]))) #[.rais (.make 3 #[.v 8,.v 9])] .n],.fld (.v 0) "numbers" (.dzip (.gl "NAMES") (.v 7))]⟩
abbrev eO:ai:=⟨["self","box"],["self","box"],[],#[.f (.not (.val (.k 10 #[.v 1]))) #[.rais (.make 4 #[.v 1])] .n,.r (.ix (.fld (.v 0) "numbers") (.v 1))]⟩
abbrev cU:ai:=⟨["self","box","number"],["self","box","number"],[],#[.f (.not (.val (.k 10 #[.v 1]))) #[.rais (.make 4 #[.v 1])] .n,.f (.not (.val (.k 12 #[.v 1,.v 2]))) #[.rais (.make 3 #[.v 1,.v 2])] .n,.sub (.fld (.v 0) "numbers") (.v 1) (.v 2)]⟩
abbrev fV:ai:=⟨["self"],["self"],[],#[.r (.bf .tuple #[.lc (.ix (.fld (.v 1) "numbers") (.v 0)) [0] (.seq (.gl "NAMES"))])]⟩
abbrev eg:ai:=⟨["self"],["self","other"],[],#[.a 1 (.make 9 .n),.fld (.v 1) "numbers" (.bf .dict #[.fld (.v 0) "numbers"]),.r (.v 1)]⟩
abbrev hW:ai:=⟨["word","box"],["word","box"],[],#[.f (.not (.val (.k 10 #[.v 1]))) #[.rais (.make 5 #[.v 0])] .n]⟩
abbrev dQ:ai:=⟨["word","number"],["word","number"],[],#[.f (.not (.val (.k 11 #[.v 1]))) #[.rais (.make 5 #[.v 0])] .n]⟩
abbrev dJ:ai:=⟨["self","box","number"],["self","box","number"],[],#[.e (.k 18 #[.s "set",.v 1]),.e (.k 19 #[.s "set",.v 2]),.fld (.v 0) "box" (.v 1),.fld (.v 0) "number" (.v 2)]⟩
abbrev jb:ai:=⟨["self","boxes","store"],["self","boxes","store"],[],#[.e (.m (.v 1) "give" #[.fld (.v 0) "box",.fld (.v 0) "number"]),.r (.i 1)]⟩
abbrev oM:ai:=⟨["self"],["self"],[],#[.r (.lst #[.s "set",.fld (.v 0) "box",.bf .str #[.fld (.v 0) "number"]])]⟩
abbrev dZ:ai:=⟨["self","box","number"],["self","box","number"],[],#[.e (.k 18 #[.s "add",.v 1]),.e (.k 19 #[.s "add",.v 2]),.fld (.v 0) "box" (.v 1),.fld (.v 0) "number" (.v 2)]⟩
abbrev jZ:ai:=⟨["self","boxes","store"],["self","boxes","store"],[],#[.e (.m (.v 1) "give" #[.fld (.v 0) "box",.bin .Add (.m (.v 1) "holds" #[.fld (.v 0) "box"]) (.fld (.v 0) "number")]),.r (.i 1)]⟩
abbrev pS:ai:=⟨["self"],["self"],[],#[.r (.lst #[.s "add",.fld (.v 0) "box",.bf .str #[.fld (.v 0) "number"]])]⟩
abbrev c8:ai:=⟨["self","box","other"],["self","box","other"],[],#[.e (.k 18 #[.s "take",.v 1]),.e (.k 18 #[.s "take",.v 2]),.fld (.v 0) "box" (.v 1),.fld (.v 0) "other" (.v 2)]⟩
abbrev iq:ai:=⟨["self","boxes","store"],["self","boxes","store"],[],#[.e (.m (.v 1) "give" #[.fld (.v 0) "box",.m (.v 1) "holds" #[.fld (.v 0) "other"]]),.r (.i 1)]⟩
abbrev my:ai:=⟨["self"],["self"],[],#[.r (.lst #[.s "take",.fld (.v 0) "box",.fld (.v 0) "other"])]⟩
abbrev di:ai:=⟨["self","box"],["self","box"],[],#[.e (.k 18 #[.s "read",.v 1]),.fld (.v 0) "box" (.v 1)]⟩
abbrev nP:ai:=⟨["self","boxes","store"],["self","boxes","store"],[],#[.e (.m (.v 1) "give" #[.fld (.v 0) "box",.m (.v 2) "look" #[.m (.v 1) "holds" #[.s "here"]]]),.r (.i 1)]⟩
abbrev lI:ai:=⟨["self"],["self"],[],#[.r (.lst #[.s "read",.fld (.v 0) "box"])]⟩
abbrev cM:ai:=⟨["self","box"],["self","box"],[],#[.e (.k 18 #[.s "write",.v 1]),.fld (.v 0) "box" (.v 1)]⟩
abbrev f9:ai:=⟨["self","boxes","store"],["self","boxes","store","number"],[],#[.a 3 (.m (.v 1) "holds" #[.fld (.v 0) "box"]),.f (.not (.val (.k 9 #[.v 3]))) #[.rais (.make 3 #[.fld (.v 0) "box",.v 3])] .n,.e (.m (.v 2) "put" #[.m (.v 1) "holds" #[.s "there"],.v 3]),.r (.i 1)]⟩
abbrev ke:ai:=⟨["self"],["self"],[],#[.r (.lst #[.s "write",.fld (.v 0) "box"])]⟩
abbrev mq:ai:=⟨["boxes","box","by"],["boxes","box","by"],[],#[.e (.m (.v 0) "give" #[.v 1,.bin .Add (.m (.v 0) "holds" #[.v 1]) (.v 2)])]⟩
abbrev dS:ai:=⟨["boxes","box"],["boxes","box"],[],#[.e (.k 35 #[.v 0,.v 1,.m (.v 0) "holds" #[.s "way"]])]⟩
abbrev iz:ai:=⟨["boxes","by"],["boxes","by"],[],#[.e (.k 35 #[.v 0,.s "left",.neg (.v 1)]),.r (.f (.q .Eq (.m (.v 0) "holds" #[.s "left"]) (.i 0)) (.i 1) (.i 0))]⟩
abbrev lz:ai:=⟨["store","cell"],["store","cell"],[],#[.f (.not (.val (.m (.v 0) "may" #[.s "put",.v 1]))) #[.rais (.make 2 #[.s "put",.v 1])] .n]⟩
abbrev wY:ai:=⟨["store","source","target"],["store","source","target","content"],[],#[.a 3 (.m (.v 0) "look" #[.v 1]),.e (.m (.v 0) "put" #[.v 2,.v 3])]⟩
abbrev jH:ai:=⟨["store","one","other"],["store","one","other","first","second"],[],#[.a 3 (.m (.v 0) "look" #[.v 1]),.a 4 (.m (.v 0) "look" #[.v 2]),.e (.k 38 #[.v 0,.v 1]),.e (.k 38 #[.v 0,.v 2]),.e (.m (.v 0) "put" #[.v 1,.v 4]),.e (.m (.v 0) "put" #[.v 2,.v 3])]⟩
abbrev hV:ai:=⟨["self","boxes","store"],["self","boxes","store"],[],#[.f (.q .Eq (.m (.v 1) "holds" #[.s "left"]) (.i 0)) #[.r (.i 1)] .n,.e (.k 39 #[.v 2,.m (.v 1) "holds" #[.s "here"],.m (.v 1) "holds" #[.s "there"]]),.e (.k 36 #[.v 1,.s "here"]),.e (.k 36 #[.v 1,.s "there"]),.r (.k 37 #[.v 1,.i 1])]⟩
abbrev mf:ai:=⟨["self"],["self"],[],#[.r (.lst #[.s "copy"])]⟩
abbrev hJ:ai:=⟨["self","boxes","store"],["self","boxes","store"],[],#[.f (.q .Eq (.m (.v 1) "holds" #[.s "left"]) (.i 0)) #[.r (.i 1)] .n,.e (.m (.v 2) "put" #[.m (.v 1) "holds" #[.s "there"],.m (.v 1) "holds" #[.s "sign"]]),.e (.k 36 #[.v 1,.s "there"]),.r (.k 37 #[.v 1,.i 1])]⟩
abbrev mj:ai:=⟨["self"],["self"],[],#[.r (.lst #[.s "fill"])]⟩
abbrev oA:ai:=⟨["self","boxes","store"],["self","boxes","store"],[],#[.f (.q .Eq (.m (.v 1) "holds" #[.s "left"]) (.i 0)) #[.e (.m (.v 1) "give" #[.s "met",.i 0]),.r (.i 1)] .n,.f (.q .Eq (.m (.v 2) "look" #[.m (.v 1) "holds" #[.s "here"]]) (.m (.v 1) "holds" #[.s "sign"])) #[.e (.m (.v 1) "give" #[.s "met",.i 1]),.r (.i 1)] .n,.e (.m (.v 1) "give" #[.s "met",.i 0]),.e (.k 36 #[.v 1,.s "here"]),.r (.k 37 #[.v 1,.i 1])]⟩
abbrev mP:ai:=⟨["self"],["self"],[],#[.r (.lst #[.s "seek"])]⟩
abbrev lU:ai:=⟨["self","boxes","store"],["self","boxes","store","content"],[],#[.f (.q .Eq (.m (.v 1) "holds" #[.s "left"]) (.i 0)) #[.e (.m (.v 1) "give" #[.s "met",.i 1]),.r (.i 1)] .n,.a 3 (.m (.v 2) "look" #[.m (.v 1) "holds" #[.s "here"]]),.f (.q .NotEq (.v 3) (.m (.v 2) "look" #[.m (.v 1) "holds" #[.s "there"]])) #[.e (.m (.v 1) "give" #[.s "met",.i 0]),.r (.i 1)] .n,.e (.m (.v 1) "give" #[.s "met",.i 1]),.e (.k 36 #[.v 1,.s "here"]),.e (.k 36 #[.v 1,.s "there"]),.r (.k 37 #[.v 1,.i 1])]⟩
abbrev kr:ai:=⟨["self"],["self"],[],#[.r (.lst #[.s "match"])]⟩
abbrev gA:ai:=⟨["self","boxes","store"],["self","boxes","store","left","here","there"],[],#[.a 3 (.m (.v 1) "holds" #[.s "left"]),.f (.q .Eq (.v 3) (.i 0)) #[.r (.i 1)] .n,.a 4 (.m (.v 1) "holds" #[.s "here"]),.a 5 (.m (.v 1) "holds" #[.s "there"]),.f (.q .LtE (.v 5) (.v 4)) #[.e (.k 39 #[.v 2,.v 4,.v 5]),.e (.k 35 #[.v 1,.s "here",.i 1]),.e (.k 35 #[.v 1,.s "there",.i 1])] #[.e (.k 39 #[.v 2,.bin .Sub (.bin .Add (.v 4) (.v 3)) (.i 1),.bin .Sub (.bin .Add (.v 5) (.v 3)) (.i 1)])],.r (.k 37 #[.v 1,.i 1])]⟩
abbrev ki:ai:=⟨["self"],["self"],[],#[.r (.lst #[.s "shift"])]⟩
abbrev ie:ai:=⟨["self","boxes","store"],["self","boxes","store","left","here"],[],#[.a 3 (.m (.v 1) "holds" #[.s "left"]),.f (.q .Eq (.v 3) (.i 0)) #[.r (.i 1)] .n,.f (.q .Eq (.v 3) (.i 1)) #[.r (.k 37 #[.v 1,.i 1])] .n,.a 4 (.m (.v 1) "holds" #[.s "here"]),.e (.k 40 #[.v 2,.v 4,.bin .Sub (.bin .Add (.v 4) (.v 3)) (.i 1)]),.e (.k 35 #[.v 1,.s "here",.i 1]),.r (.k 37 #[.v 1,.i 2])]⟩
abbrev mV:ai:=⟨["self"],["self"],[],#[.r (.lst #[.s "turn"])]⟩
abbrev fX:ai:=⟨["rows"],["rows","at","thing"],[],#[.f (.or (.not (.val (.isi (.v 0) (.ty "list")))) (.not (.cmp2 .LtE .LtE (.i 1) (.bf .len #[.v 0]) (.gl "MOST_ROWS")))) #[.rais (.make 6 #[.neg (.i 1)])] .n,.for (.tp [1,2]) (.enm (.v 0)) #[.f (.not (.val (.isi (.v 2) (.own 10)))) #[.rais (.make 6 #[.v 1])] .n]]⟩
abbrev e9:ai:=⟨["at","many"],["at","many"],[],#[.f (.or (.not (.val (.k 8 #[.v 0]))) (.not (.cmp2 .LtE .LtE (.i 0) (.v 0) (.v 1)))) #[.rais (.make 7 #[.v 0])] .n]⟩
abbrev rR:ai:=⟨["deed","boxes","store"],["deed","boxes","store","stop","refusal"],[],#[.tryx #[.r (.tup #[.m (.v 0) "step" #[.v 1,.v 2],.non])] (.c 2 3 #[.r (.tup #[.non,.tup #[.fld (.v 3) "deed",.fld (.v 3) "cell"]])] (.c 3 4 #[.r (.tup #[.non,.tup #[.s "fit",.fld (.v 4) "box"]])] .n))]⟩
abbrev b6:ai:=⟨["self","rows","store","boxes","at"],["self","rows","store","boxes","at"],[.int 0],#[.e (.k 53 #[.v 1]),.e (.k 54 #[.v 4,.bf .len #[.v 1]]),.fld (.v 0) "deeds" (.bf .list #[.v 1]),.fld (.v 0) "store" (.m (.v 2) "copied" .n),.fld (.v 0) "boxes" (.m (.v 3) "copied" .n),.fld (.v 0) "at" (.v 4)]⟩
abbrev c9:ai:=⟨["self"],["self"],[],#[.r (.q .Eq (.fld (.v 0) "at") (.bf .len #[.fld (.v 0) "deeds"]))]⟩
abbrev cq:ai:=⟨["self","store"],["self","store","by"],[],#[.f (.val (.m (.v 0) "ended" .n)) #[.r (.s "end")] .n,.a 2 (.ix (.k 55 #[.ix (.fld (.v 0) "deeds") (.fld (.v 0) "at"),.fld (.v 0) "boxes",.v 1]) (.i 0)),.f (.q .Is (.v 2) .non) #[.r (.s "stop")] .n,.fld (.v 0) "at" (.bf .min #[.bin .Add (.fld (.v 0) "at") (.v 2),.bf .len #[.fld (.v 0) "deeds"]]),.r (.s "on")]⟩
abbrev jn:ai:=⟨["self"],["self"],[],#[.r (.m (.v 0) "step_on" #[.fld (.v 0) "store"])]⟩
abbrev jS:ai:=⟨["self"],["self"],[],#[.r (.lc (.m (.v 0) "words" .n) [] (.seq (.fld (.v 0) "deeds")))]⟩
abbrev gI:ai:=⟨["self"],["self"],[],#[.r (.make 22 #[.fld (.v 0) "deeds",.fld (.v 0) "store",.fld (.v 0) "boxes",.fld (.v 0) "at"])]⟩
abbrev fh:ai:=⟨["cells"],["cells","at","thing"],[],#[.f (.or (.not (.val (.isi (.v 0) (.ty "list")))) (.not (.cmp2 .LtE .LtE (.i 1) (.bf .len #[.v 0]) (.gl "MOST_CELLS")))) #[.rais (.make 1 #[.neg (.i 1)])] .n,.for (.tp [1,2]) (.enm (.v 0)) #[.f (.not (.val (.k 9 #[.v 2]))) #[.rais (.make 1 #[.v 1])] .n]]⟩
abbrev cA:ai:=⟨["self","cells"],["self","cells"],[],#[.e (.k 62 #[.v 1]),.fld (.v 0) "contents" (.bf .list #[.v 1]),.fld (.v 0) "permits" (.bin .Mult (.lst #[.s "open"]) (.bf .len #[.v 1]))]⟩
abbrev mw:ai:=⟨["self"],["self"],[],#[.r (.bf .len #[.fld (.v 0) "contents"])]⟩
abbrev nr:ai:=⟨["self"],["self"],[],#[.r (.bf .list #[.fld (.v 0) "contents"])]⟩
abbrev n9:ai:=⟨["self","deed","cell"],["self","deed","cell"],[],#[.f (.not (.cmp2 .LtE .Lt (.i 0) (.v 2) (.m (.v 0) "size" .n))) #[.r (.bl false)] .n,.f (.q .Eq (.ix (.fld (.v 0) "permits") (.v 2)) (.s "look")) #[.r (.q .Eq (.v 1) (.s "look"))] .n,.r (.q .Eq (.ix (.fld (.v 0) "permits") (.v 2)) (.s "open"))]⟩
abbrev l6:ai:=⟨["self","cell"],["self","cell"],[],#[.f (.not (.val (.m (.v 0) "may" #[.s "look",.v 1]))) #[.rais (.make 2 #[.s "look",.v 1])] .n,.r (.ix (.fld (.v 0) "contents") (.v 1))]⟩
abbrev pU:ai:=⟨["self","cell","content"],["self","cell","content"],[],#[.f (.not (.val (.m (.v 0) "may" #[.s "put",.v 1]))) #[.rais (.make 2 #[.s "put",.v 1])] .n,.sub (.fld (.v 0) "contents") (.v 1) (.v 2)]⟩
abbrev eh:ai:=⟨["self"],["self","other"],[],#[.a 1 (.make 23 #[.lst #[.i 0]]),.fld (.v 1) "contents" (.bf .list #[.fld (.v 0) "contents"]),.fld (.v 1) "permits" (.bf .list #[.fld (.v 0) "permits"]),.r (.v 1)]⟩
abbrev bP:ai:=⟨["deed"],["deed"],[],#[.r (.isiT (.v 0) [18,19,14])]⟩
abbrev ff:ai:=⟨["rows"],["rows","at","deed"],[],#[.for (.tp [1,2]) (.enm (.v 0)) #[.f (.val (.k 70 #[.v 2])) #[.rais (.make 8 #[.v 1])] .n]]⟩
abbrev bZ:ai:=⟨["self","size"],["self","size"],[],#[.fld (.v 0) "sources" (.lc (.tup #[.s "cell",.v 0]) [] (.rng1 (.v 1)))]⟩
abbrev eX:ai:=⟨["self","deed","cell"],["self","deed","cell"],[],#[.r (.cmp2 .LtE .Lt (.i 0) (.v 2) (.bf .len #[.fld (.v 0) "sources"]))]⟩
abbrev d7:ai:=⟨["self","cell"],["self","cell"],[],#[.f (.not (.val (.m (.v 0) "may" #[.s "look",.v 1]))) #[.rais (.make 2 #[.s "look",.v 1])] .n,.r (.ix (.fld (.v 0) "sources") (.v 1))]⟩
abbrev fe:ai:=⟨["self","cell","thing"],["self","cell","thing"],[],#[.f (.not (.val (.m (.v 0) "may" #[.s "put",.v 1]))) #[.rais (.make 2 #[.s "put",.v 1])] .n,.sub (.fld (.v 0) "sources") (.v 1) (.f (.val (.isi (.v 2) (.ty "tuple"))) (.v 2) (.tup #[.s "number",.v 2]))]⟩
abbrev dI:ai:=⟨["self"],["self"],[],#[.r (.bf .list #[.fld (.v 0) "sources"])]⟩
abbrev gK:ai:=⟨["rows","boxes","size"],["rows","boxes","size","machine","origins","told"],[],#[.e (.k 53 #[.v 0]),.e (.k 71 #[.v 0]),.a 3 (.make 22 #[.v 0,.make 23 #[.lst #[.i 0]],.v 1]),.a 4 (.make 24 #[.v 2]),.a 5 (.lst #[.tup #[.m (.v 1) "told" .n,.m (.v 4) "told" .n]]),.whl (.q .Eq (.m (.v 3) "step_on" #[.v 4]) (.s "on")) #[.e (.lm .append (.v 5) #[.tup #[.m (.fld (.v 3) "boxes") "told" .n,.m (.v 4) "told" .n]])],.r (.v 5)]⟩
abbrev hU:ai:=⟨["told","bell"],["told","bell"],[],#[.r (.ix (.v 0) (.bf .min #[.v 1,.bin .Sub (.bf .len #[.v 0]) (.i 1)]))]⟩
abbrev gy:ai:=⟨["origin","cells"],["origin","cells"],[],#[.r (.f (.q .Eq (.ix (.v 0) (.i 0)) (.s "cell")) (.ix (.v 1) (.ix (.v 0) (.i 1))) (.ix (.v 0) (.i 1)))]⟩
abbrev il:ai:=⟨["one","other"],["one","other","at","box"],[],#[.for (.tp [2,3]) (.enf (.gl "NAMES")) #[.f (.q .NotEq (.ix (.v 0) (.v 2)) (.ix (.v 1) (.v 2))) #[.r (.v 3)] .n],.r .non]⟩
abbrev gb:ai:=⟨["one","other","cells"],["one","other","cells","cell"],[],#[.for (.nm 3) (.rng1 (.bf .len #[.v 2])) #[.f (.q .NotEq (.k 79 #[.ix (.v 0) (.v 3),.v 2]) (.k 79 #[.ix (.v 1) (.v 3),.v 2])) #[.r (.v 3)] .n],.r .non]⟩
abbrev c7:ai:=⟨["size"],["size","stores","cell"],[],#[.a 1 (.lst #[.bin .Mult (.lst #[.i 0]) (.v 0)]),.for (.nm 2) (.rng3 (.bin .Sub (.v 0) (.i 1)) (.neg (.i 1)) (.neg (.i 1))) #[.e (.lm .append (.v 1) #[.bin .Add (.bin .Add (.bin .Mult (.lst #[.i 0]) (.v 2)) (.lst #[.i 1])) (.bin .Mult (.lst #[.i 0]) (.bin .Sub (.bin .Sub (.v 0) (.v 2)) (.i 1)))])],.r (.v 1)]⟩
abbrev eU:ai:=⟨["one","other"],["one","other"],[],#[.r (.ix (.lci (.v 0) (.q .IsNot (.k 81 #[.v 1,.v 2,.v 0]) .non) [0,1] (.seq (.k 82 #[.bf .len #[.v 0]]))) (.i 0))]⟩
abbrev oH:ai:=⟨["bell","one","other"],["bell","one","other","box","cells"],[],#[.a 3 (.k 80 #[.ix (.v 1) (.i 0),.ix (.v 2) (.i 0)]),.f (.q .IsNot (.v 3) .non) #[.r (.tup #[.s "parted",.v 0,.bin .Mult (.lst #[.i 0]) (.bf .len #[.ix (.v 1) (.i 1)]),.tup #[.s "box",.v 3]])] .n,.a 4 (.k 83 #[.ix (.v 1) (.i 1),.ix (.v 2) (.i 1)]),.r (.tup #[.s "parted",.v 0,.v 4,.tup #[.s "cell",.k 81 #[.ix (.v 1) (.i 1),.ix (.v 2) (.i 1),.v 4]]])]⟩
abbrev mR:ai:=⟨["one","other","boxes","size"],["one","other","boxes","size","first","second","bell","left","right"],[],#[.a 4 (.k 77 #[.v 0,.v 2,.v 3]),.a 5 (.k 77 #[.v 1,.v 2,.v 3]),.for (.nm 6) (.rng1 (.bf .max #[.bf .len #[.v 4],.bf .len #[.v 5]])) #[.a 7 (.k 78 #[.v 4,.v 6]),.a 8 (.k 78 #[.v 5,.v 6]),.f (.q .NotEq (.v 7) (.v 8)) #[.r (.k 84 #[.v 6,.v 7,.v 8])] .n],.r (.tup #[.s "alike"])]⟩
abbrev lr:ai:=⟨["thing"],["thing"],[],#[.r (.and (.k 8 #[.v 0]) (.cmp2 .LtE .LtE (.i 0) (.v 0) (.gl "MOST_HOPPED")))]⟩
abbrev tS:ai:=⟨["thing"],["thing"],[],#[.r (.or (.q .Is (.v 0) .non) (.and (.k 8 #[.v 0]) (.or (.q .Eq (.v 0) (.i 0)) (.q .Eq (.v 0) (.i 1)))))]⟩
abbrev dM:ai:=⟨["self","many","on"],["self","many","on"],[.non],#[.f (.or (.not (.val (.k 86 #[.v 1]))) (.not (.val (.k 87 #[.v 2])))) #[.rais (.make 5 #[.s "hop"])] .n,.fld (.v 0) "many" (.v 1),.fld (.v 0) "on" (.v 2)]⟩
abbrev jg:ai:=⟨["self","boxes","store"],["self","boxes","store"],[],#[.f (.or (.q .Is (.fld (.v 0) "on") .non) (.q .Eq (.fld (.v 0) "on") (.m (.v 1) "holds" #[.s "met"]))) #[.r (.bin .Add (.i 1) (.fld (.v 0) "many"))] .n,.r (.i 1)]⟩
abbrev oj:ai:=⟨["self"],["self","told"],[],#[.a 1 (.lst #[.s "hop",.bf .str #[.fld (.v 0) "many"]]),.f (.q .IsNot (.fld (.v 0) "on") .non) #[.e (.lm .extend (.v 1) #[.lst #[.s "if",.bf .str #[.fld (.v 0) "on"]]])] .n,.r (.v 1)]⟩
abbrev iD:ai:=⟨["_law_script"],["_law_script","_law_cells_here","_law_fold","_law_cell"],[],#[.a 1 (.bf .list #[.sl (.v 0) .no (.yes (.i 63))]),.a 2 (.bf .len #[.v 1]),.for (.nm 3) (.seq (.v 1)) #[.a 2 (.bin .Mod (.bin .Add (.bin .Add (.bin .Mult (.v 2) (.i 48271)) (.bin .Mod (.v 3) (.i 2147483647))) (.i 1)) (.i 2147483629))],.r (.lst #[.v 1,.v 2,.i 0,.i 0,.i 0])]⟩
abbrev iu:ai:=⟨["_law_hand_here","_law_many"],["_law_hand_here","_law_many","_law_rest","_law_cell","_law_one","_law_two"],[],#[.augS (.v 0) (.i 4) .Add (.i 1),.a 2 (.ix (.v 0) (.i 3)),.a 3 (.ix (.v 0) (.i 1)),.f (.q .Gt (.v 2) (.i 0)) #[.sub (.v 0) (.i 3) (.bin .FloorDiv (.v 2) (.v 1)),.r (.bin .Mod (.v 2) (.v 1))] .n,.f (.q .Lt (.ix (.v 0) (.i 2)) (.bf .len #[.ix (.v 0) (.i 0)])) #[.a 3 (.ix (.ix (.v 0) (.i 0)) (.ix (.v 0) (.i 2))),.augS (.v 0) (.i 2) .Add (.i 1),.f (.q .GtE (.v 3) (.bin .Pow (.i 10) (.i 18))) #[.sub (.v 0) (.i 3) (.bin .FloorDiv (.v 3) (.v 1)),.r (.bin .Mod (.v 3) (.v 1))] .n] .n,.a 4 (.bin .Mod (.bin .Pow (.bin .Add (.bin .Mod (.v 3) (.i 998244353)) (.bin .Mult (.i 7919) (.ix (.v 0) (.i 4)))) (.i 5)) (.i 2147483647)),.a 5 (.bin .Mod (.bin .Pow (.bin .Add (.bin .Add (.v 4) (.bin .Mult (.i 104729) (.ix (.v 0) (.i 4)))) (.ix (.v 0) (.i 1))) (.i 3)) (.i 2147483629)),.r (.bin .Mod (.bin .FloorDiv (.v 5) (.i 7)) (.v 1))]⟩
abbrev dO:ai:=⟨["_law_hand_here"],["_law_hand_here","_law_way"],[],#[.a 1 (.k 92 #[.v 0,.i 4]),.f (.q .Eq (.v 1) (.i 0)) #[.r (.k 92 #[.v 0,.i 3])] .n,.f (.q .Eq (.v 1) (.i 1)) #[.r (.bin .Sub (.bin .Pow (.i 10) (.i 9)) (.k 92 #[.v 0,.i 2]))] .n,.f (.q .Eq (.v 1) (.i 2)) #[.r (.k 92 #[.v 0,.i 100])] .n,.r (.bin .Mod (.bin .Add (.bin .Mult (.k 92 #[.v 0,.i 100000]) (.i 10001)) (.k 92 #[.v 0,.i 10001])) (.bin .Add (.bin .Pow (.i 10) (.i 9)) (.i 1)))]⟩
abbrev iB:ai:=⟨["_law_hand_here","_law_many"],["_law_hand_here","_law_many","_law_way"],[],#[.a 2 (.k 92 #[.v 0,.i 8]),.f (.q .Lt (.v 2) (.i 4)) #[.r (.k 92 #[.v 0,.v 1])] .n,.f (.q .Lt (.v 2) (.i 6)) #[.r (.ix (.lst #[.i 0,.bin .Sub (.v 1) (.i 1)]) (.bin .Sub (.v 2) (.i 4)))] .n,.f (.q .Eq (.v 2) (.i 6)) #[.r (.ix (.lst #[.bin .Sub (.neg (.i 1)) (.k 92 #[.v 0,.i 3]),.bin .Add (.v 1) (.k 92 #[.v 0,.i 3])]) (.k 92 #[.v 0,.i 2]))] .n,.r (.ix (.lst #[.bin .Sub (.bin .Pow (.i 10) (.i 9)) (.k 92 #[.v 0,.i 2]),.bin .Sub (.k 92 #[.v 0,.i 2]) (.bin .Pow (.i 10) (.i 9)),.k 92 #[.v 0,.v 1]]) (.k 92 #[.v 0,.i 3]))]⟩
abbrev fJ:ai:=⟨["_law_hand_here","_law_cells_here"],["_law_hand_here","_law_cells_here","_law_many","_law_way","_law_left","_law_sign","_law_here","_law_there"],[],#[.a 2 (.bf .len #[.v 1]),.a 3 (.k 92 #[.v 0,.i 8]),.a 4 (.ix (.lst #[.k 92 #[.v 0,.bin .Add (.v 2) (.i 1)],.k 92 #[.v 0,.i 4],.bin .Add (.v 2) (.k 92 #[.v 0,.i 3])]) (.bin .Mod (.v 3) (.i 3))),.f (.q .Eq (.v 3) (.i 7)) #[.a 4 (.bin .Sub (.bin .Pow (.i 10) (.i 9)) (.k 92 #[.v 0,.i 2]))] .n,.a 5 (.ix (.lst #[.ix (.v 1) (.k 92 #[.v 0,.v 2]),.k 93 #[.v 0]]) (.bin .FloorDiv (.k 92 #[.v 0,.i 4]) (.i 3))),.a 6 (.k 94 #[.v 0,.v 2]),.a 7 (.k 94 #[.v 0,.v 2]),.a 3 (.bin .Sub (.i 1) (.bin .Mult (.i 2) (.k 92 #[.v 0,.i 2]))),.r (.disp ["here","there","left","way","sign","met"] #[.v 6,.v 7,.v 4,.v 3,.v 5,.k 92 #[.v 0,.i 2]])]⟩
abbrev ik:ai:=⟨["_law_hand_here","_law_size"],["_law_hand_here","_law_size","_law_way","_law_names","_law_box","_law_pick"],[],#[.a 2 (.k 92 #[.v 0,.i 14]),.a 3 (.lst #[.s "here",.s "there",.s "left",.s "way",.s "sign",.s "met"]),.a 4 (.ix (.v 3) (.k 92 #[.v 0,.i 6])),.f (.q .Lt (.v 2) (.i 6)) #[.r (.tup #[.ix (.lst #[.s "copy",.s "fill",.s "copy",.s "turn",.s "shift",.s "turn"]) (.v 2)])] .n,.f (.q .Lt (.v 2) (.i 9)) #[.a 4 (.ix (.lst #[.s "here",.s "there",.s "left",.v 4]) (.k 92 #[.v 0,.i 4])),.a 5 (.bin .FloorDiv (.k 92 #[.v 0,.i 8]) (.i 3)),.r (.tup #[.s "set",.v 4,.ix (.lst #[.k 92 #[.v 0,.bin .Add (.v 1) (.i 1)],.bin .Sub (.k 92 #[.v 0,.i 5]) (.i 2),.bin .Sub (.bin .Pow (.i 10) (.i 9)) (.k 92 #[.v 0,.i 2])]) (.v 5)])] .n,.f (.q .Eq (.v 2) (.i 9)) #[.a 5 (.bin .FloorDiv (.k 92 #[.v 0,.i 7]) (.i 3)),.r (.tup #[.s "add",.v 4,.ix (.lst #[.bin .Sub (.k 92 #[.v 0,.i 7]) (.i 3),.k 92 #[.v 0,.bin .Add (.v 1) (.i 1)],.neg (.bin .Pow (.i 10) (.i 9))]) (.v 5)])] .n,.f (.q .Eq (.v 2) (.i 10)) #[.r (.tup #[.s "take",.v 4,.ix (.v 3) (.k 92 #[.v 0,.i 6])])] .n,.f (.q .Lt (.v 2) (.i 13)) #[.r (.tup #[.s "write",.v 4])] .n,.r (.tup #[.s "hop",.k 92 #[.v 0,.i 4],.ix (.lst #[.non,.i 0,.i 1]) (.k 92 #[.v 0,.i 3])])]⟩
abbrev ip:ai:=⟨["_law_spec_here"],["_law_spec_here","_law_word"],[],#[.a 1 (.ix (.v 0) (.i 0)),.f (.q .Eq (.v 1) (.s "set")) #[.r (.make 11 #[.ix (.v 0) (.i 1),.ix (.v 0) (.i 2)])] .n,.f (.q .Eq (.v 1) (.s "add")) #[.r (.make 12 #[.ix (.v 0) (.i 1),.ix (.v 0) (.i 2)])] .n,.f (.q .Eq (.v 1) (.s "take")) #[.r (.make 13 #[.ix (.v 0) (.i 1),.ix (.v 0) (.i 2)])] .n,.f (.q .Eq (.v 1) (.s "write")) #[.r (.make 15 #[.ix (.v 0) (.i 1)])] .n,.f (.q .Eq (.v 1) (.s "hop")) #[.r (.make 25 #[.ix (.v 0) (.i 1),.ix (.v 0) (.i 2)])] .n,.f (.q .Eq (.v 1) (.s "copy")) #[.r (.mk0 16)] .n,.f (.q .Eq (.v 1) (.s "fill")) #[.r (.mk0 17)] .n,.f (.q .Eq (.v 1) (.s "shift")) #[.r (.mk0 20)] .n,.r (.mk0 21)]⟩
abbrev gr:ai:=⟨["_law_six_here"],["_law_six_here"],[],#[.r (.make 9 #[.ix (.v 0) (.s "here"),.ix (.v 0) (.s "there"),.ix (.v 0) (.s "left"),.ix (.v 0) (.s "way"),.ix (.v 0) (.s "sign"),.ix (.v 0) (.s "met")])]⟩
abbrev eZ:ai:=⟨["_law_hand_here"],["_law_hand_here","_law_way"],[],#[.a 1 (.k 92 #[.v 0,.i 8]),.f (.q .Lt (.v 1) (.i 6)) #[.r (.make 14 #[.ix (.lst #[.s "here",.s "there",.s "left",.s "way",.s "sign",.s "met"]) (.v 1)])] .n,.r (.ix (.lst #[.mk0 18,.mk0 19]) (.bin .Sub (.v 1) (.i 6)))]⟩
abbrev d6:ai:=⟨["_law_e"],["_law_e"],[],#[.f (.or (.not (.val (.isi (.v 0) (.own 0)))) (.or (.not (.val (.isi (.v 0) (.ty "ValueError")))) (.val (.isi (.v 0) (.own 6))))) #[.r (.tup #[.s "other",.i 0])] .n,.r (.tup #[.s "refused",.fld (.v 0) "at"])]⟩
abbrev cY:ai:=⟨["_law_one","_law_two","_law_boxes_here","_law_size"],["_law_one","_law_two","_law_boxes_here","_law_size","_law_told","_law_e"],[],#[.tryx #[.a 4 (.k 85 #[.v 0,.v 1,.v 2,.v 3])] (.c 8 5 #[.r (.k 100 #[.v 5])] .n),.r (.tup #[.s "told",.v 4])]⟩
abbrev dq:ai:=⟨["_law_rows_here","_law_boxes_here","_law_size"],["_law_rows_here","_law_boxes_here","_law_size","_law_told","_law_e"],[],#[.tryx #[.a 3 (.k 77 #[.v 0,.v 1,.v 2])] (.c 8 4 #[.r (.k 100 #[.v 4])] .n),.r (.tup #[.s "told",.bf .len #[.v 3]])]⟩
abbrev fc:ai:=⟨["_law_hand_here","_law_rows_here","_law_times"],["_law_hand_here","_law_rows_here","_law_times","_law_first","_law_k","_law_at"],[],#[.a 1 (.bf .list #[.v 1]),.a 3 (.neg (.i 1)),.for (.nm 4) (.rng1 (.v 2)) #[.a 5 (.k 92 #[.v 0,.bin .Add (.bf .len #[.v 1]) (.i 1)]),.e (.lm .insert (.v 1) #[.v 5,.k 99 #[.v 0]]),.f (.or (.q .Lt (.v 3) (.i 0)) (.q .LtE (.v 5) (.v 3))) #[.a 3 (.v 5)] .n],.r (.tup #[.v 1,.v 3])]⟩
abbrev fS:ai:=⟨["_law_script"],["_law_script","_law_hand_here","_law_ways","_law_times","_law_size","_law_six_here","_law_lists","_law_boxes_here","_law_ahead","_law_one","_law_first","_law_two","_law_second","_law_due","_law_handed","_law_turn"],[],#[.a 1 (.k 91 #[.v 0]),.a 2 (.k 92 #[.v 1,.i 4]),.a 3 (.lst #[.bin .Add (.k 92 #[.v 1,.i 2]) (.i 1),.bin .Add (.k 92 #[.v 1,.i 2]) (.i 1)]),.a 4 (.bin .Add (.i 1) (.k 92 #[.v 1,.i 8])),.a 5 (.k 95 #[.v 1,.lc (.k 93 #[.v 1]) [1] (.rng1 (.v 4))]),.a 6 (.lc (.lc (.k 97 #[.k 96 #[.v 1,.v 2]]) [1,2] (.rng1 (.bin .Add (.i 1) (.k 92 #[.v 1,.i 12])))) [1,4] (.rng1 (.i 2))),.a 7 (.k 98 #[.v 5]),.a 8 (.k 101 #[.ix (.v 6) (.i 0),.ix (.v 6) (.i 1),.v 7,.v 4]),.asgT [9,10] (.k 103 #[.v 1,.ix (.v 6) (.i 0),.bin .Mult (.ix (.v 3) (.i 0)) (.bin .Mod (.v 2) (.i 2))]),.asgT [11,12] (.k 103 #[.v 1,.ix (.v 6) (.i 1),.bin .Mult (.ix (.v 3) (.i 1)) (.bin .FloorDiv (.v 2) (.i 2))]),.a 13 (.v 8),.f (.q .GtE (.v 12) (.i 0)) #[.a 13 (.tup #[.s "refused",.v 12])] .n,.f (.q .GtE (.v 10) (.i 0)) #[.a 13 (.tup #[.s "refused",.v 10])] .n,.a 14 (.lst #[.bf .list #[.v 9],.bf .list #[.v 11]]),.for (.nm 15) (.rng1 (.i 2)) #[.f (.or (.q .NotEq (.ix (.v 8) (.i 0)) (.s "told")) (.q .NotEq (.k 101 #[.ix (.v 14) (.i 0),.ix (.v 14) (.i 1),.v 7,.v 4]) (.v 13))) #[.r (.bl false)] .n,.f (.and (.q .GtE (.v 10) (.i 0)) (.q .NotEq (.k 102 #[.ix (.v 14) (.i 0),.v 7,.v 4]) (.tup #[.s "refused",.v 10]))) #[.r (.bl false)] .n,.f (.and (.q .GtE (.v 12) (.i 0)) (.q .NotEq (.k 102 #[.ix (.v 14) (.i 1),.v 7,.v 4]) (.tup #[.s "refused",.v 12]))) #[.r (.bl false)] .n,.f (.or (.q .NotEq (.v 14) (.lst #[.v 9,.v 11])) (.q .NotEq (.m (.v 7) "told" .n) (.vals true (.v 5)))) #[.r (.bl false)] .n],.r (.q .Eq (.k 101 #[.ix (.v 6) (.i 0),.ix (.v 6) (.i 1),.v 7,.v 4]) (.v 8))]⟩
abbrev tab:Tab where
  fns:=(cb::dr::cC::gO::gk::gh::fM::bO::jv::gB::jN::iA::yJ::cN::eO::cU::fV::eg::hW::dQ::dJ::jb::oM::dZ::jZ::pS::c8::iq::my::di::nP::lI::cM::f9::ke::mq::dS::iz::lz::wY::jH::hV::mf::hJ::mj::oA::mP::lU::kr::gA::ki::ie::mV::fX::e9::rR::b6::c9::cq::jn::jS::gI::fh::cA::mw::nr::n9::l6::pU::eh::bP::ff::bZ::eX::d7::fe::dI::gK::hU::gy::il::gb::c7::eU::oH::mR::lr::tS::dM::jg::oj::iD::iu::dO::iB::fJ::ik::ip::gr::eZ::d6::cY::dq::fc::fS::[])
  gfn:=(("is_whole",8)::("is_content",9)::("is_box",10)::("is_number",11)::("fits",12)::("check_box",18)::("check_number",19)::("more",35)::("go_by_way",36)::("less_left",37)::("ask_put",38)::("haul",39)::("exchange",40)::("check_rows",53)::("check_place",54)::("tried",55)::("check_cells",62)::("looks_for_its_way",70)::("check_blind",71)::("shadows",77)::("shadow_at",78)::("content_of",79)::("first_box",80)::("first_cell",81)::("stores_to_try",82)::("least_store",83)::("parted",84)::("alike",85)::("is_many",86)::("is_on",87)::("_law_hand",91)::("_law_draw",92)::("_law_content",93)::("_law_spot",94)::("_law_six",95)::("_law_spec",96)::("_law_deed",97)::("_law_boxes",98)::("_law_looker",99)::("_law_refused",100)::("_law_alike",101)::("_law_shadowed",102)::("_law_spoilt",103)::("law",104)::[])
  gcl:=[("HaulError",0),("NoStore",1),("Stop",2),("NoFit",3),("NoBox",4),("NoDeed",5),("NoRows",6),("NoPlace",7),("NotBlind",8),("Boxes",9),("Deed",10),("Set",11),("Add",12),("Take",13),("Read",14),("Write",15),("Copy",16),("Fill",17),("Seek",18),("Match",19),("Shift",20),("Turn",21),("Machine",22),("Store",23),("Origins",24),("Hop",25)]
  gbl:=["ValueError","bool","dict","enumerate","int","isinstance","len","list","max","min","range","str","tuple","zip"]
  gbi:=["HaulError"]
  na:=[(1,"at"),(2,"cell"),(2,"deed"),(3,"box"),(3,"number"),(4,"box"),(5,"word"),(6,"at"),(7,"at"),(8,"at"),(9,"numbers"),(11,"box"),(11,"number"),(12,"box"),(12,"number"),(13,"box"),(13,"other"),(14,"box"),(15,"box"),(22,"at"),(22,"boxes"),(22,"deeds"),(22,"store"),(23,"contents"),(23,"permits"),(24,"sources"),(25,"many"),(25,"on")]
  me:=(((9,"copied"),17)::((9,"give"),15)::((9,"holds"),14)::((9,"told"),16)::((11,"step"),21)::((11,"words"),22)::((12,"step"),24)::((12,"words"),25)::((13,"step"),27)::((13,"words"),28)::((14,"step"),30)::((14,"words"),31)::((15,"step"),33)::((15,"words"),34)::((16,"step"),41)::((16,"words"),42)::((17,"step"),43)::((17,"words"),44)::((18,"step"),45)::((18,"words"),46)::((19,"step"),47)::((19,"words"),48)::((20,"step"),49)::((20,"words"),50)::((21,"step"),51)::((21,"words"),52)::((22,"copied"),61)::((22,"ended"),57)::((22,"rows"),60)::((22,"step"),59)::((22,"step_on"),58)::((23,"copied"),69)::((23,"look"),67)::((23,"may"),66)::((23,"put"),68)::((23,"size"),64)::((23,"told"),65)::((24,"look"),74)::((24,"may"),73)::((24,"put"),75)::((24,"told"),76)::((25,"step"),89)::((25,"words"),90)::[])
  ini:=[(1,0),(2,1),(3,2),(4,3),(5,4),(6,5),(7,6),(8,7),(9,13),(11,20),(12,23),(13,26),(14,29),(15,32),(22,56),(23,63),(24,72),(25,88)]
  ini0:=[]
  inip:=[16,17,18,19,20,21]
  oc:=[9,10,11,12,13,14,15,16,17,18,19,20,21,22,23,24,25]
  xc:=[0,1,2,3,4,5,6,7,8]
  sub:=(((0,0),true)::((0,3),false)::((0,6),false)::((0,8),false)::((0,2),false)::((1,0),true)::((1,3),false)::((1,6),false)::((1,8),false)::((1,2),false)::((2,0),true)::((2,3),false)::((2,6),false)::((2,8),false)::((2,2),true)::((3,0),true)::((3,3),true)::((3,6),false)::((3,8),false)::((3,2),false)::((4,0),true)::((4,3),false)::((4,6),false)::((4,8),false)::((4,2),false)::((5,0),true)::((5,3),false)::((5,6),false)::((5,8),false)::((5,2),false)::((6,0),true)::((6,3),false)::((6,6),true)::((6,8),false)::((6,2),false)::((7,0),true)::((7,3),false)::((7,6),false)::((7,8),false)::((7,2),false)::((8,0),true)::((8,3),false)::((8,6),false)::((8,8),true)::((8,2),false)::((9,10),false)::((9,19),false)::((9,14),false)::((9,18),false)::((10,10),true)::((10,19),false)::((10,14),false)::((10,18),false)::((11,10),true)::((11,19),false)::((11,14),false)::((11,18),false)::((12,10),true)::((12,19),false)::((12,14),false)::((12,18),false)::((13,10),true)::((13,19),false)::((13,14),false)::((13,18),false)::((14,10),true)::((14,19),false)::((14,14),true)::((14,18),false)::((15,10),true)::((15,19),false)::((15,14),false)::((15,18),false)::((16,10),true)::((16,19),false)::((16,14),false)::((16,18),false)::((17,10),true)::((17,19),false)::((17,14),false)::((17,18),false)::((18,10),true)::((18,19),false)::((18,14),false)::((18,18),true)::((19,10),true)::((19,19),true)::((19,14),false)::((19,18),false)::((20,10),true)::((20,19),false)::((20,14),false)::((20,18),false)::((21,10),true)::((21,19),false)::((21,14),false)::((21,18),false)::((22,10),false)::((22,19),false)::((22,14),false)::((22,18),false)::((23,10),false)::((23,19),false)::((23,14),false)::((23,18),false)::((24,10),false)::((24,19),false)::((24,14),false)::((24,18),false)::((25,10),true)::((25,19),false)::((25,14),false)::((25,18),false)::[])
  subT:=[((0,"ValueError"),true),((1,"ValueError"),true),((2,"ValueError"),true),((3,"ValueError"),true),((4,"ValueError"),true),((5,"ValueError"),true),((6,"ValueError"),true),((7,"ValueError"),true),((8,"ValueError"),true)]
  subB:=((("NoneType","bool"),false)::(("NoneType","int"),false)::(("NoneType","list"),false)::(("NoneType","str"),false)::(("NoneType","tuple"),false)::(("bool","bool"),true)::(("bool","int"),true)::(("bool","list"),false)::(("bool","str"),false)::(("bool","tuple"),false)::(("int","bool"),false)::(("int","int"),true)::(("int","list"),false)::(("int","str"),false)::(("int","tuple"),false)::(("str","bool"),false)::(("str","int"),false)::(("str","list"),false)::(("str","str"),true)::(("str","tuple"),false)::(("list","bool"),false)::(("list","int"),false)::(("list","list"),true)::(("list","str"),false)::(("list","tuple"),false)::(("tuple","bool"),false)::(("tuple","int"),false)::(("tuple","list"),false)::(("tuple","str"),false)::(("tuple","tuple"),true)::(("dict","bool"),false)::(("dict","int"),false)::(("dict","list"),false)::(("dict","str"),false)::(("dict","tuple"),false)::[])
  subO:=[]
/-- what the proofs ask of the addresses -/
structure Ro (K:W.Frag) (R:Rt):Prop where
  hK:R.K=K
  g_BOUND:R.gl "BOUND"=some (.int 1000000000)
  g_MOST_ROWS:R.gl "MOST_ROWS"=some (.int 24)
  g_MOST_CELLS:R.gl "MOST_CELLS"=some (.int 60)
  g_MOST_HOPPED:R.gl "MOST_HOPPED"=some (.int 24)
  g_NAMES:∃ a,R.gl "NAMES"=some (.ref a)/\∀ H,aX K H a [.str "here",.str "there",.str "left",.str "way",.str "sign",.str "met"]
end My
set_option Elab.async false
set_option maxHeartbeats 8000000
namespace My
open PySem L2 L3
open L2.V renaming ref→v4,int→wf,str→wl,non→wn
open L2.HO renaming lst→wp,tup→wr,ins→wv
local macro_rules|`(tactic|delta $x:ident)=>`(tactic|refine wc (d:=$x) nofun rfl rfl ?_)
variable {h a d dx l D:Addr}{m i r n at_:Int}{ns cs':List Int}{v:V}{xs vs ds ys:List V}{α:Type}{ws:List Str}{G:Gx}{A:aj}{c:Bool}{P:V->Prop}{sp:Sp}{o:Option Int}{Δ':List aj}{N:Nat}{I:Nat->Addr->List V->Hp->Prop}{H3:Hp}{te:TE}{rest:St}
section
variable {K:W.Frag}{R:Rt}{k:Nat}{H:Hp}{Q:VK}{E:XK}{O Γ' Δ:List aj}
local macro_rules| `(tactic|walk_at "w")=>`(tactic|conv=>whnf)
local macro_rules| `(tactic|left)=>`(tactic|walk_at "w")
local macro_rules| `(tactic|symm)=>`(tactic|((with_reducible (repeat(first|exact ae.e|apply ae.t)));done))
local macro_rules| `(tactic|ac_rfl)=>`(tactic|((with_reducible (repeat(first|exact aI.e|apply aI.t)));done))
local macro_rules| `(tactic|ac_nf)=>`(tactic|first|(with_reducible exact Sub.refl)|(refine' Sub.cons ?h ?r;(case h=>symm);(case r=>ac_nf))|(with_reducible exact Sub.nil)|(with_reducible apply Sub.drop;(ac_nf)))
local macro_rules| `(tactic|walk_at "sp")=>`(tactic|(refine Sep.sub ?_ (by with_reducible assumption);(ac_nf)))
local macro_rules| `(tactic|grind)=>`(tactic|first|exact Sep.get (by with_reducible assumption) (by symm)|exact Sep.fk (by with_reducible assumption) (by symm))
local macro_rules| `(tactic|walk_at "ar")=>`(tactic|first|lia|omega|decide|exact pc rfl|(unfold pk;omega)|(unfold zq;omega)|(unfold zq;decide)|(unfold pk;decide)|(simp only[ci,length_set,length_replicate];omega))
local macro_rules| `(tactic|walk_at "ls")=>`(tactic|first|(conv=>lhs;simp only[List.set_cons_succ,List.set_cons_zero,Int.reduceToNat])|rfl)
local macro_rules| `(tactic|walk_at "pf")=>`(tactic|first|(conv=>lhs;simp (decide:=true) only [cj,if_true,if_false])|rfl)
local macro_rules| `(tactic|walk_at "st")=>`(tactic|first
  |(with_reducible refine And.intro rfl ?_)
  |(with_reducible refine bj rfl ?_)
  |(with_reducible refine aO rfl ?_)
  |(with_reducible refine Di ?_)
  |((with_reducible refine' aP ?e ?v ?_);(case e=>grind);(case v=>exact rfl))
  |((with_reducible refine' fK ?e ?v ?_);(case e=>grind);(case v=>exact rfl))
  |((with_reducible refine' Hj ?e ?i ?v ?_);(case e=>grind);(case i=>omega);(case v=>exact rfl))
  |(with_reducible refine vP rfl ?_)
  |(with_reducible refine yG rfl ?_)
  |((with_reducible refine' bR ?e ?_);(case e=>grind))
  |((with_reducible refine' bf_lenT ?e ?_);(case e=>grind))
  |((with_reducible refine' Cr ?s ?r ?j ?x (λH hs=>?_));(case s=>with_reducible assumption);(case r=>ac_rfl);(case j=>exact rfl);(case x=>walk_at "ls"))
  |((with_reducible refine' mF ?s ?l (λp H hs=>?_));(case s=>with_reducible assumption);(case l=>exact pc rfl))
  |((with_reducible refine' bq ?s ?l (λp H hs=>?_));(case s=>with_reducible assumption);(case l=>exact pc rfl))
  |((with_reducible refine' al_dct ?s (λp H hs=>?_));(case s=>with_reducible assumption))
  |((with_reducible refine' GS ?e ?_);(case e=>grind))
  |((with_reducible refine' Dn ?e ?_);(case e=>grind))
  |((with_reducible refine' yq ?s ?e ?f ?l (λp H hs=>?_));(case s=>with_reducible assumption);(case e=>grind);(case f=>grind);(case l=>walk_at "ar"))
  |((with_reducible refine' Cv ?s ?e ?f ?g ?l (λp H hs=>?_));(case s=>with_reducible assumption);(case e=>grind);(case f=>walk_at "ar");(case g=>walk_at "ar");(case l=>walk_at "ar"))
  |((with_reducible refine' Jn ?s ?r ?o ?n ?l ?x (λH hs=>?_));(case s=>with_reducible assumption);(case r=>ac_rfl);(case o=>exact rfl);(case n=>exact rfl);(case l=>walk_at "ar");(case x=>walk_at "pf"))
  |((with_reducible refine' bL ?e ?o ?n ?l ?_);(case e=>grind);(case o=>exact rfl);(case n=>exact rfl);(case l=>exact rfl))
  |((with_reducible refine' Hn ?e ?o ?n ?l ?_);(case e=>grind);(case o=>exact rfl);(case n=>exact rfl);(case l=>exact rfl))
  |((with_reducible refine' Ht ?e ?o ?b ?_);(case e=>grind);(case o=>exact rfl);(case b=>exact rfl))
  |((with_reducible refine' Er ?e ?o ?b ?_);(case e=>grind);(case o=>exact rfl);(case b=>exact rfl))
  |((with_reducible refine' gf ?t ?b ?_);(case t=>exact rfl);(case b=>exact rfl))
  |((with_reducible refine' iW ?a ?b ?_);(case a=>exact rfl);(case b=>exact rfl))
  |((with_reducible refine' rX ?a ?b ?_);(case a=>exact rfl);(case b=>exact rfl))
  |((with_reducible refine' eC ?s ?e (λp H hs=>?_));(case s=>with_reducible assumption);(case e=>grind))
  |((with_reducible refine' sl_l ?s ?e (λp H hs=>?_));(case s=>with_reducible assumption);(case e=>grind))
  |(refine And.intro (by walk_at "ar") ?_))
local macro_rules| `(tactic|walk_at "go")=>`(tactic|(walk_at "w";repeat(walk_at "st";walk_at "w")))
local macro_rules| `(tactic|right)=>`(tactic|walk_at "go")
abbrev hand (h:Addr)(m:Int):aj:=ex λx:Addr×List Int×Int×Int×Int×Int=>nH (pt h (wp [v4 x.1,wf x.2.2.1,wf x.2.2.2.1,wf x.2.2.2.2.1,wf x.2.2.2.2.2])) (nH (pt x.1 (wp (x.2.1.map wf)))
 (pu (x.2.1.length<=63/\0<=x.2.2.1/\x.2.2.1<2147483629/\0<=x.2.2.2.1/\0<=x.2.2.2.2.1/\0<=x.2.2.2.2.2/\x.2.2.2.2.2<=m)))
def vO (s:Sep (hand h m::O) H):∃ (c:Addr) (ns:List Int) (fo i r n:Int),Sep (pt h (wp [v4 c,wf fo,wf i,wf r,wf n])::pt c (wp (ns.map wf))::O) H/\ns.length<=63/\0<=fo/\fo<2147483629/\0<=i/\0<=r/\0<=n/\n<=m:=by
 obtain⟨⟨c,ns,fo,i,r,n⟩,s⟩:=Sep.FH.mp s;have s2:=Sep.star.mp ((Sep.star.mp s).pull .k1);have p:=(s2.pull .k1).pure;exact⟨c,ns,fo,i,r,n,((s2.pull .k1).drop).pull .k1,p⟩
def gW {c:Addr}{fo:Int}(s:Sep (pt h (wp [v4 c,wf fo,wf i,wf r,wf n])::pt c (wp (ns.map wf))::O) H)(p:ns.length<=63/\0<=fo/\fo<2147483629/\0<=i/\0<=r/\0<=n/\n<=m):Sep (hand h m::O) H:=by
 refine Sep.FH.mpr ⟨⟨c,ns,fo,i,r,n⟩,Sep.star.mpr ?_⟩;exact(Sep.star.mpr (((s.pull .k1).pull .e |> λs=>(Sep.yo p s).pull .k1))).pull .k1
def G3:(10:Int) ^ Int.toNat 18=1000000000000000000:=by decide
def yH (hk:1<=k)(s:Sep (hand h m::O) H)(hm:m<=1099511627776)(hn0:0<n)(hn1:n<1073741824)
  (q:∀ (r:Int) (H':Hp),0<=r->r<n->Sep (hand h (m+1)::O) H'->Q (wf r) H'):aa tab R k 92 [v4 h,wf n] H Q E:=by
 obtain⟨c,ns,fo,i,r,j,hs,h63,f0,f1,i0,r0,k0,k1⟩:=vO s;clear s;have nn:n≠0:=by omega
 delta iu;right;refine aK (λhr=>?_) (λhr=>?_)
 .right;rename_i H1 hs1 H2 hs2;exact q _ _ (Int.emod_nonneg _ nn) (Int.emod_lt_of_pos _ hn0) (gW hs2 ⟨h63,f0,f1,i0,Int.ediv_nonneg r0 nofun,by omega,by omega⟩)
 right;refine aK (λhc=>?_) (λhc=>?_)
 .right;obtain⟨z,hz⟩:∃ z,kU (ns.map wf) i=some (wf z):=xf i0 (by rw[ci]at hc;exact hc);refine aP (by grind) hz ?_;right;refine aK (λhz18=>?_) (λhz18=>?_)
  .rw[G3]at hz18;right;rename_i H1 hs1 H2 hs2 H3 hs3;exact q _ _ (Int.emod_nonneg _ nn) (Int.emod_lt_of_pos _ hn0) (gW hs3 ⟨h63,f0,f1,by omega,Int.ediv_nonneg nofun nofun,by omega,by omega⟩)
  .right;rename_i H1 hs1 H2 hs2;exact q _ _ (Int.emod_nonneg _ nn) (Int.emod_lt_of_pos _ hn0) (gW hs2 ⟨h63,f0,f1,by omega,r0,by omega,by omega⟩)
 .right;rename_i H1 hs1;exact q _ _ (Int.emod_nonneg _ nn) (Int.emod_lt_of_pos _ hn0) (gW hs1 ⟨h63,f0,f1,by omega,r0,by omega,by omega⟩)
def DG (hk:1<=k)(s:Sep O H)(hS:ba R.K H a (ns.map wf))(h63:ns.length<=63)(q:∀ h H',Sep (hand h 0::O) H'->Q (v4 h) H'):aa tab R k 91 [v4 a] H Q E:=by
 delta iD;right;refine IP s hS (λp H1 hs1=>?_);rw[FX ns h63]at hs1;right;rename_i c H2 hs2;refine AB (xs:=ns.map wf) (λj U H=>∃ (fo:Int) (v:Option V),U=[some (v4 a),some (v4 c),some (wf fo),v]/\0<=fo/\fo<2147483629/\Sep (pt c (wp (ns.map wf))::pt p (wp (ns.map wf))::O) H) ?_ ?_ ?_ ?_
 .exact⟨_,none,rfl,by rw[ci];omega,by rw[ci];omega,hs2⟩
 .rintro j U H ⟨fo,v,rfl,h0,h2,hs⟩;exact ba.of hs.at
 .rintro j x U H hx ⟨fo,v,rfl,h0,h2,hs⟩;obtain⟨z,rfl⟩:=rN hx;right;exact⟨_,_,rfl,by omega,by omega,hs⟩
 .rintro U H ⟨fo,v,rfl,h0,h2,hs⟩;right;rename_i l H3 hs3;exact q l _ (gW ((hs3.pull .k2).drop) ⟨h63,h0,h2,by omega,by omega,by omega,by omega⟩)
def ah (s:Sep (hand h m::O) H)(e:m<=n):Sep (hand h n::O) H:=by
 obtain⟨c,ns,fo,i,r,j,hs,h63,f0,f1,i0,r0,k0,k1⟩:=vO s;exact gW hs ⟨h63,f0,f1,i0,r0,k0,by omega⟩
inductive Kd (H:Hp):V->String->Prop where
 |non:Kd H wn "NoneType"
 |bl (b:Bool):Kd H (.bl b) "bool"
 |int (i:Int):Kd H (wf i) "int"
 |str (x:Str):Kd H (wl x) "str"
 |lst {a:Addr}{xs:List V}(e:H a=some (wp xs)):Kd H (v4 a) "list"
 |tup {a:Addr}{xs:List V}(e:H a=some (wr xs)):Kd H (v4 a) "tuple"
 |dct {a:Addr}{kvs:List (Key×V)}(e:Rd H a (.dK kvs)):Kd H (v4 a) "dict"
def iG {t:String}(h:tyName v H=some t):Kd H v t:=by
 unfold tyName at h
 split at h
 .cases h;exact .non
 .cases h;exact .bl _
 .cases h;exact .int _
 .cases h;exact .str _
 .split at h
  .rename_i e;cases h;exact .lst e
  .rename_i e;cases h;exact .tup e
  .rename_i e;cases h;exact .dct (.inl e)
  .rename_i e;cases h;exact .dct (.inr ⟨_,e⟩)
  .cases h
 .cases h
abbrev EB:V->Bool
 | wf _=>true
 |_=>false
abbrev gX:V->Bool
 | wf i=>decide (0<=i)&&decide (i<=1000000000)
 |_=>false
def aN {t:String}(hk:1<=k)(ht:tyName v H=some t)(q:Q (.bl (EB v)) H):aa tab R k 8 [v] H Q E:=by
 delta jv;right;cases iG ht
 all_goals
  refine gf ht rfl ?_;right
  first
   |exact q
   |(refine gf ht rfl ?_;right;exact q)
def bT {t:String}(ro:Ro K R)(hk:2<=k)(ht:tyName v H=some t)(q:Q (.bl (gX v)) H):aa tab R k 9 [v] H Q E:=by
 delta gB;right;refine aN nofun ht ?_;cases iG ht
 case int i=>
  right;refine aK (λh0=>?_) (λh0=>?_)
  .left;simp only[ro.g_BOUND];right;have e:gX (wf i)=decide (i<=1000000000):=by simp[gX,h0]
   rw[e]at q;exact q
  .right;have e:gX (wf i)=false:=by simp[gX,h0]
   rw[e]at q;exact q
 all_goals
  right;exact q
abbrev bad (xs:List V):Option Int:=if xs.length<1\/60<xs.length then some (-1) else(xs.findIdx? λx=>!gX x).map λn=>(n:Int)
def EA (h:¬ (1<=xs.length/\xs.length<=60)):bad xs=some (-1):=by
 unfold bad;rw[if_pos nofun]
def Dj {j:Nat}{x:V}(h:1<=xs.length/\xs.length<=60)(hx:xs[j]? =some x)(hc:gX x=false)(hb:∀ i y,i<j->xs[i]? =some y->gX y=true):bad xs=some j:=by
 unfold bad;rw[if_neg nofun];have:xs.findIdx? (λx=>!gX x)=some j:=by
  rw[List.findIdx?_eq_some_iff_getElem];obtain⟨hj,e⟩:=tz.mp hx;refine⟨hj,by rw[e,hc];rfl,λi hi=>?_⟩;rw[hb i xs[i] hi (li _)]
  decide
 rw[this]
 rfl
def ot (h:1<=xs.length/\xs.length<=60)(hb:∀ (i:Nat) y,xs[i]? =some y->gX y=true):bad xs=none:=by
 unfold bad;rw[if_neg nofun];have:xs.findIdx? (λx=>!gX x)=none:=by
  rw[List.findIdx?_eq_none_iff];intro x hx;obtain⟨i,hi⟩:=List.mem_iff_getElem?.mp hx;rw[hb i x hi]
  rfl
 rw[this]
 rfl
def yZ (h:bad xs=none):1<=xs.length/\xs.length<=60:=by
 unfold bad at h
 split at h
 .cases h
 .omega
def zO {x:V}{n:Nat}:(sK (Int.toNat (n:Int)) [x]).flatten=sK n x:=by
 rw[sn]
 induction n with
 |zero=>rfl
 |succ n ih=>rw[replicate_succ,flatten_cons,ih];rfl
abbrev i8 (C:Addr)(fs:List (Str×V))(x:Addr)(fr:Bool):aj:=ex λd:Addr=>nH (pt x (.exc C (some d) fs fr)) (pt d (.own x))
def ir {C x:Addr}{fs:List (Str×V)}{fr:Bool}(s:Sep (pt x (.exc C (some d) fs fr)::pt d (.own x)::O) H):Sep (i8 C fs x fr::O) H:=Sep.FH.mpr ⟨d,Sep.star.mpr s⟩
def kQ {C x:Addr}{fs:List (Str×V)}{fr:Bool}(s:Sep (i8 C fs x fr::O) H):∃ d,Sep (pt x (.exc C (some d) fs fr)::pt d (.own x)::O) H:=let⟨d,s⟩:=Sep.FH.mp s;⟨d,Sep.star.mp s⟩
def dX {x:Addr}(hk:1<=k)(s:Sep (pt x (.exc (R.cad 1) none [] true)::O) H)(q:∀ d H',Sep (pt x (.exc (R.cad 1) (some d) [("at",v)] true)::pt d (.own x)::O) H'->Q wn H'):aa tab R k 0 [v4 x,v] H Q E:=by
 delta cb;right;refine⟨_,1,_,_,_,_,rfl,by grind,rfl,?_⟩;right;refine sU s rfl rfl (λd H hs=>?_);right;exact q d H hs
def zy (ro:Ro K R)(hk:3<=k)(s:Sep (pt a (wp xs)::tys xs::O) H)(q0:bad xs=none->∀ H',Sep (pt a (wp xs)::tys xs::O) H'->Q wn H')
  (q1:∀ at',bad xs=some at'->∀ x H',Sep (i8 (R.cad 1) [("at",wf at')] x false::pt a (wp xs)::tys xs::O) H'->E x H'):aa tab R k 62 [v4 a] H Q E:=by
 delta fh;right;refine gf (t:="list") (Hy s.at) rfl ?_;right
 by_cases hl:1<=xs.length/\xs.length<=60
 .refine bj (decide_eq_true nofun) ?_;left;simp only[ro.g_MOST_CELLS];right;refine bj (c:=decide ((xs.length:Int)<=60)) (decide_eq_true nofun) ?_;right;refine lZ (xs:=xs) (λj U H=>∃ y z,U=[some (v4 a),y,z]/\(∀ i w,i<j->xs[i]? =some w->gX w=true)/\Sep (pt a (wp xs)::tys xs::O) H) ?_ ?_ ?_ ?_
  .exact⟨none,none,rfl,λi w h=>absurd h nofun,s⟩
  .rintro j U H ⟨y,z,rfl,_,hs⟩;exact hs.at
  .rintro j x T U H hx ⟨y,z,rfl,hb,hs⟩ hT;have hs1:=hs.iK (xs:=[wf j,x]) hT;left;refine⟨T,_,rfl,.inl (aX.of hs1.atT),rfl,?_⟩;right;obtain⟨t,ht⟩:=(hs1.pull .k2).FL x (db hx);refine bT ro nofun ht ?_;right;refine gH (λhc=>?_) (λhc=>?_)
   .right;refine⟨_,_,rfl,λi w hi hw=>?_,hs1.drop⟩
    by_cases e:i=j
    .subst e;rw[hx]at hw;cases hw;exact hc
    .exact hb i w nofun hw
   .right;intro p hp;refine dX nofun (hs1.drop.new hp) (λd H hs=>?_);right;refine dU hs (by ac_rfl) rfl (λH hs=>?_);exact q1 _ (Dj hl hx hc hb) p H (ir hs)
  .rintro U H ⟨y,z,rfl,hb,hs⟩;right;exact q0 (ot hl λi w hi=>hb i w (tz.mp hi).1 hi) _ hs
 .have fin:∀ p,H p=none->aa tab R (k-1) 0 [v4 p,wf (-1)] (upd H p (.exc (R.cad 1) none [] true)) (λv H2=>v=wn/\∃ b i dx fs,v4 p=v4 b/\H2 b=some (.exc (R.cad i) dx fs true)/\tab.xc.contains i=true/\E b (upd H2 b (.exc (R.cad i) dx fs false))) E:=by
   intro p hp;refine dX nofun (s.new hp) (λd H hs=>?_);refine⟨rfl,?_⟩;refine dU (G:=⟨tab,R,aa tab R 0,.calm⟩) hs (by ac_rfl) rfl (λH hs=>?_);exact q1 _ (EA hl) p H (ir hs)
  by_cases h1:1<=xs.length
  .refine bj (decide_eq_true nofun) ?_;left;simp only[ro.g_MOST_CELLS];right;refine aO (c:=decide ((xs.length:Int)<=60)) (decide_eq_false nofun) ?_;right;exact fin
  .refine aO (decide_eq_false nofun) ?_;right;exact fin
abbrev fA (C p:Addr)(cs ws:List V):aj:=ex λx:Addr×Addr×Addr=>nH (pt p (wv C x.1 [("contents",v4 x.2.1),("permits",v4 x.2.2)])) (nH (pt x.1 (.own p)) (nH (pt x.2.1 (wp cs)) (pt x.2.2 (wp ws))))
def nJ {C p:Addr}{cs ws:List V}(s:Sep (fA C p cs ws::O) H):∃ dx a b,Sep (pt p (wv C dx [("contents",v4 a),("permits",v4 b)])::pt dx (.own p)::pt a (wp cs)::pt b (wp ws)::O) H:=by
 obtain⟨⟨dx,a,b⟩,s⟩:=Sep.FH.mp s;refine⟨dx,a,b,?_⟩;have s1:=Sep.star.mp s;have s2:=Sep.star.mp (s1.pull .k1);have s3:=Sep.star.mp (s2.pull .k1);exact((s3.pull .k2).pull .k3)
def j4 {C p b:Addr}{cs ws:List V}(s:Sep (pt p (wv C dx [("contents",v4 a),("permits",v4 b)])::pt dx (.own p)::pt a (wp cs)::pt b (wp ws)::O) H):Sep (fA C p cs ws::O) H:=by
 refine Sep.FH.mpr ⟨(dx,a,b),Sep.star.mpr ?_⟩;have s3:=Sep.star.mpr ((s.pull .k3).pull .k3);have s2:=Sep.star.mpr (s3.pull .k2);exact s2.pull .k1
def mx {p:Addr}(ro:Ro K R)(hk:4<=k)(s:Sep (pt p (wv (R.cad 23) dx [])::pt dx (.own p)::pt a (wp xs)::tys xs::O) H)
  (q0:bad xs=none->∀ H',Sep (fA (R.cad 23) p xs (sK xs.length (wl "open"))::pt a (wp xs)::tys xs::O) H'->Q wn H')
  (q1:∀ at',bad xs=some at'->∀ x H',Sep (i8 (R.cad 1) [("at",wf at')] x false::pt a (wp xs)::tys xs::O) H'->E x H'):aa tab R k 63 [v4 p,v4 a] H Q E:=by
 delta cA;right;refine zy (O:=pt p (wv (R.cad 23) dx [])::pt dx (.own p)::O) ro nofun (s.sub (by ac_nf)) (λhb H hs=>?_) (λat' hb x H hs=>?_)
 .have hl:=yZ hb;right;rename_i l H1 hs1 H2 hs2 m H3 hs3 w H4 hs4 H5 hs5;rw[zO]at hs5;exact q0 hb _ (j4 (hs5.sub (by ac_nf)))
 .exact q1 at' hb x H (hs.sub (by ac_nf))
def cR {xs:List α}{x:α}(h0:0<=i)(hx:xs[i.toNat]? =some x):kU xs i=some x:=by
 have h:=L2.cT hx
 rwa [Int.toNat_of_nonneg h0]at h
abbrev aq (ws:List Str)(d:Str)(i:Int):Bool:=decide (0<=i)&&(decide (i<ws.length)&&(match ws[i.toNat]? with
 |some w=>if w="look" then d =="look" else w =="open"
 |none=>false))
def aE {d:Str}(h:aq ws d i=true):0<=i/\i<ws.length:=by
 unfold aq at h;rw[mo,mo,decide_eq_true_eq,decide_eq_true_eq]at h;exact⟨h.1,h.2.1⟩
def dY {x:Addr}{w:V}(hk:1<=k)(s:Sep (pt x (.exc (R.cad 2) none [] true)::O) H)(q:∀ d H',Sep (pt x (.exc (R.cad 2) (some d) [("deed",v),("cell",w)] true)::pt d (.own x)::O) H'->Q wn H'):aa tab R k 1 [v4 x,v,w] H Q E:=by
 delta dr;right;refine⟨_,2,_,_,_,_,rfl,by grind,rfl,?_⟩;right;refine sU s rfl rfl (λd H hs=>?_);right;refine G1 hs (by ac_rfl) rfl rfl (pc rfl) rfl (λH hs=>?_);right;exact q d H hs
def lR:(10:Int) ^ Int.toNat 9=1000000000:=by decide
local macro_rules| `(tactic|walk_at "dr")=>`(tactic|(refine' yH ?k ?s ?m ?a ?b (λr H hr0 hr1 hs=>?_);(case s=>walk_at "sp");(case k=>exact nofun);(case m=>omega);(case a=>walk_at "ar");(case b=>walk_at "ar")))
local macro_rules| `(tactic|walk_at "gd")=>`(tactic|(walk_at "w";repeat(first|(walk_at "st";walk_at "w")|(walk_at "dr";walk_at "w"))))
def lb (hk:2<=k)(s:Sep (hand h m::O) H)(hm:m<=1099511000000)(q:∀ i H',0<=i->i<=1000000000->Sep (hand h (m+3)::O) H'->Q (wf i) H'):aa tab R k 93 [v4 h] H Q E:=by
 delta dO;walk_at "gd";refine bc (λh0=>?_) (λh0=>?_)
 .walk_at "gd";rename_i r H2 hr0 hr1 hs2;exact q _ _ nofun nofun (ah hs2 nofun)
 walk_at "gd";refine bc (λh1=>?_) (λh1=>?_)
 .walk_at "gd";rename_i r H2 hr0 hr1 hs2;exact q _ _ (by rw[lR];omega) (by rw[lR];omega) (ah hs2 nofun)
 walk_at "gd";refine bc (λh2=>?_) (λh2=>?_)
 .walk_at "gd";rename_i r H2 hr0 hr1 hs2;exact q _ _ nofun nofun (ah hs2 nofun)
 walk_at "gd";rename_i r H2 hr0 hr1 hs2 r' H3 hr0' hr1' hs3;rw[lR];exact q _ _ nofun nofun (ah hs3 nofun)
abbrev jM (ns:List Int):Prop:=∀ i ∈ ns,0<=i/\i<=1000000000
abbrev bx (f:α->List aj):aj:=⟨λH D=>∃ x,a8 (f x) H D,λH H' D ⟨x,h⟩ k t=>⟨x,a8.st h k t⟩,λH D D' ⟨x,h⟩ k=>⟨x,a8.up h k⟩⟩
def fP:∀ {O Δ:List aj}{D:Addr->Prop},a8 (O++Δ) H D ↔ ∃ D1 D2:Addr->Prop,(∀ a,D1 a->D a)/\(∀ a,D2 a->D a)/\(∀ a,D1 a->D2 a->False)/\a8 O H D1/\a8 Δ H D2
 | [],Δ,D=>⟨λh=>⟨λ_=>False,D,λ_ z=>z.elim,λ_ z=>z,λ_ z _=>z,True.intro,h⟩,λ⟨_,_,_,s2,_,_,h⟩=>a8.up h s2⟩
 |A::O,Δ,D=>by
  constructor
  .rintro⟨E1,E2,s1,s2,dj,hA,h⟩;obtain⟨F1,F2,t1,t2,dk,h1,h2⟩:=fP.mp h;refine⟨λa=>E1 a\/F1 a,F2,λa z=>z.elim (s1 a) λz=>s2 a (t1 a z),λa z=>s2 a (t2 a z),λa z w=>z.elim (λz=>dj a z (t2 a w)) λz=>dk a z w,?_,h2⟩;exact⟨E1,F1,λa z=>.inl z,λa z=>.inr z,λa z w=>dj a z (t1 a w),hA,h1⟩
  .rintro⟨D1,D2,s1,s2,dj,⟨E1,E2,t1,t2,dk,hA,h1⟩,h2⟩;refine⟨E1,λa=>E2 a\/D2 a,λa z=>s1 a (t1 a z),λa z=>z.elim (λz=>s1 a (t2 a z)) (s2 a),λa z w=>w.elim (dk a z) λw=>dj a (t1 a z) w,hA,?_⟩;exact fP.mpr ⟨E2,D2,λa z=>.inl z,λa z=>.inr z,λa z w=>dj a (t2 a z) w,h1,h2⟩
def iS {f:α->List aj}(s:Sep (bx f::O) H):∃ x,Sep (f x++O) H:=by
 obtain⟨D,k,D1,D2,s1,s2,dj,⟨x,h1⟩,h2⟩:=s;exact⟨x,D,k,fP.mpr ⟨D1,D2,s1,s2,dj,h1,h2⟩⟩
def gP {f:α->List aj}(x:α)(s:Sep (f x++O) H):Sep (bx f::O) H:=by
 obtain⟨D,k,h⟩:=s;obtain⟨D1,D2,s1,s2,dj,h1,h2⟩:=fP.mp h;exact⟨D,k,D1,D2,s1,s2,dj,⟨x,h1⟩,h2⟩
abbrev lq:List Str:=["here","there","left","way","sign","met"]
abbrev tN:List Key:=[.inr "here",.inr "there",.inr "left",.inr "way",.inr "sign",.inr "met"]
abbrev gT:V->Bool
 | wf i=>decide (-1000000000<=i)&&decide (i<=1000000000)
 |_=>false
abbrev vf (a b:Int):V->Bool
 | wf i=>i ==a||i ==b
 |_=>false
abbrev cQ:Nat->V->Bool
 |0,v=>gT v
 |1,v=>gT v
 |3,v=>vf 1 (-1) v
 |5,v=>vf 0 1 v
 |_,v=>gX v
def d5 {t:String}(ro:Ro K R)(hk:2<=k)(ht:tyName v H=some t)(q:Q (.bl (gT v)) H):aa tab R k 11 [v] H Q E:=by
 delta iA;right;refine aN nofun ht ?_;cases iG ht
 case int i=>
  left;refine bj rfl ?_;left;simp only[ro.g_BOUND];right;refine aK (λh0=>?_) (λh0=>?_)
  .left;simp only[ro.g_BOUND];right;have e:gT (wf i)=decide (i<=1000000000):=by simp[gT,h0]
   rw[e]at q;exact q
  .right;have e:gT (wf i)=false:=by simp[gT,h0]
   rw[e]at q;exact q
 all_goals
  right;exact q
def je {j:Nat}{x:Str}(h:lq[j]? =some x):(j=0/\x="here")\/(j=1/\x="there")\/(j=2/\x="left")\/(j=3/\x="way")\/(j=4/\x="sign")\/(j=5/\x="met"):=by
 rcases j with _|_|_|_|_|_|j
 .cases h;exact .inl ⟨rfl,rfl⟩
 .cases h;exact .inr (.inl ⟨rfl,rfl⟩)
 .cases h;exact .inr (.inr (.inl ⟨rfl,rfl⟩))
 .cases h;exact .inr (.inr (.inr (.inl ⟨rfl,rfl⟩)))
 .cases h;exact .inr (.inr (.inr (.inr (.inl ⟨rfl,rfl⟩))))
 .cases h;exact .inr (.inr (.inr (.inr (.inr ⟨rfl,rfl⟩))))
 .exact absurd h (by simp[lq])
local macro_rules| `(tactic|walk_at "sc")=>`(tactic|first|(refine bj (by decide+kernel) ?_;walk_at "go")|(refine aO (by decide+kernel) ?_;walk_at "go"))
def qO {t:String}{j:Nat}{x:Str}(ro:Ro K R)(hk:3<=k)(hj:lq[j]? =some x)(ht:tyName v H=some t)(q:Q (.bl (cQ j v)) H):aa tab R k 12 [wl x,v] H Q E:=by
 delta yJ;rcases je hj with⟨rfl,rfl⟩|⟨rfl,rfl⟩|⟨rfl,rfl⟩|⟨rfl,rfl⟩|⟨rfl,rfl⟩|⟨rfl,rfl⟩
 all_goals right
 all_goals repeat walk_at "sc"
 .exact d5 ro nofun ht q
 .exact d5 ro nofun ht q
 .exact bT ro nofun ht q
 .refine aN nofun ht ?_;cases iG ht
  case int i=>
   right;refine bc (λh0=>?_) (λh0=>?_)
   .right;have e:cQ 3 (wf i)=true:=by simp[cQ,vf,h0]
    rw[e]at q;exact q
   .right;have e:cQ 3 (wf i)=(i == -1):=by simp[cQ,vf,h0]
    rw[e]at q;exact q
  all_goals
   right;exact q
 .exact bT ro nofun ht q
 .refine aN nofun ht ?_;cases iG ht
  case int i=>
   right;refine bc (λh0=>?_) (λh0=>?_)
   .right;have e:cQ 5 (wf i)=true:=by simp[cQ,vf,h0]
    rw[e]at q;exact q
   .right;have e:cQ 5 (wf i)=(i ==1):=by simp[cQ,vf,h0]
    rw[e]at q;exact q
  all_goals
   right;exact q
abbrev boxes (R:Rt)(b:Addr)(ns:List Int):aj:=bx λx:Addr×Addr=>[pt b (wv (R.cad 9) x.1 [("numbers",v4 x.2)]),pt x.1 (.own b),pt x.2 (.dK (tN.zip (ns.map wf))),pu (ns.length=6)]
def fW {b:Addr}(s:Sep (boxes R b ns::O) H):∃ dx d,ns.length=6/\Sep (pt b (wv (R.cad 9) dx [("numbers",v4 d)])::pt dx (.own b)::pt d (.dK (tN.zip (ns.map wf)))::O) H:=by
 obtain⟨⟨dx,d⟩,s⟩:=iS s;have s:Sep (pt b (wv (R.cad 9) dx [("numbers",v4 d)])::pt dx (.own b)::pt d (.dK (tN.zip (ns.map wf)))::pu (ns.length=6)::O) H:=s;have p:=(s.pull .k3).pure;exact⟨dx,d,p,(s.pull .k3).drop⟩
def gd {b:Addr}(hn:ns.length=6)(s:Sep (pt b (wv (R.cad 9) dx [("numbers",v4 d)])::pt dx (.own b)::pt d (.dK (tN.zip (ns.map wf)))::O) H):Sep (boxes R b ns::O) H:=
 gP (dx,d) (Sep.push .k3 (Sep.yo hn s))
def six {ns:List α}(h:ns.length=6):∃ a b c d e f,ns=[a,b,c,d,e,f]:=by
 match ns,h with
 | [a,b,c,d,e,f],_=>exact⟨a,b,c,d,e,f,rfl⟩
def sF {j:Nat}{x:Str}(hn:ns.length=6)(hj:lq[j]? =some x):∃ i,ns[j]? =some i/\iP (tN.zip (ns.map wf)) (.inr x)=some (wf i):=by
 obtain⟨a,b,c,d,e,f,rfl⟩:=six hn;rcases je hj with⟨rfl,rfl⟩|⟨rfl,rfl⟩|⟨rfl,rfl⟩|⟨rfl,rfl⟩|⟨rfl,rfl⟩|⟨rfl,rfl⟩<;>exact⟨_,rfl,rfl⟩
def Bg {b:Addr}(ro:Ro K R)(hk:1<=k)(s:Sep (boxes R b ns::O) H)(q:∀ t H',Sep (tu t (ns.map wf)::boxes R b ns::O) H'->Q (v4 t) H'):aa tab R k 16 [v4 b] H Q E:=by
 obtain⟨dx,d,hn,s⟩:=fW s;delta fV;right;obtain⟨a,hg,hS⟩:=ro.g_NAMES;simp only[hg];rw[<-ro.hK]at hS;right;refine Hm (hS H) ?_;refine Et (xs:=lq.map wl) (pc rfl) (λD ys H=>ys=(ns.map wf).take ys.length/\Sep (pt D (wp ys)::pt b (wv (R.cad 9) dx [("numbers",v4 d)])::pt dx (.own b)::pt d (.dK (tN.zip (ns.map wf)))::O) H) ?_ ?_ ?_ ?_
 .intro D ys H _;exact hS H
 .intro D hD;exact⟨rfl,s.new hD⟩
 .rintro D ys x H' hx ⟨e,hs⟩;rw[io]at hx;obtain⟨z,hz,rfl⟩:=nb.mp hx;obtain⟨i,h1,h2⟩:=sF hn hz;right;refine qa (k:=.inr z) (by grind) h2 ?_;have hlt:=(tz.mp h1).1;refine vp.mk (by grind) nofun ⟨?_,?_⟩
  .have e2:(ns.map wf)[ys.length]? =some (wf i):=by rw[io,h1];rfl
   rw[cr,ge,List.take_succ,e2]
   conv=>lhs;rw[e]
   rfl
  .exact hs.set rfl
 .rintro D ys H' hl ⟨e,hs⟩;have e2:ys=ns.map wf:=by
   rw[e,hl];rw[List.take_of_length_le];simp[lq,hn]
  subst e2;right;refine Es hs (by grind) (λp H hs=>?_);right;refine q p H ?_;refine Sep.pull .k1 (gd (dx:=dx) (d:=d) hn ?_);walk_at "sp"
def sv {x:Addr}(ro:Ro K R)(hk:4<=k)(hn:ns.length=6)(hf:∀ (j:Nat) i,ns[j]? =some i->cQ j (wf i)=true) (s:Sep (pt x (wv (R.cad 9) dx [])::pt dx (.own x)::O) H) (q:∀ H',Sep (boxes R x ns::O) H'->Q wn H'):
  aa tab R k 13 (v4 x::ns.map wf) H Q E:=by
 obtain⟨a0,a1,a2,a3,a4,a5,rfl⟩:=six hn;delta cN;right;rename_i p H1 hs1;obtain⟨na,hg,hS⟩:=ro.g_NAMES;simp only[hg];rw[<-ro.hK]at hS;right;refine Jd (tp1:=true) (tp2:=true) (xs:=lq.map wl) (ys:=[wf a0,wf a1,wf a2,wf a3,wf a4,wf a5]) (hS _) (aX.of hs1.at) ?_;refine Ai (xs:=lq.map wl) (ys:=[wf a0,wf a1,wf a2,wf a3,wf a4,wf a5]) (λj U H=>∃ v w,U=[some (v4 x),some (wf a0),some (wf a1),some (wf a2),some (wf a3),some (wf a4),some (wf a5),some (v4 p),v,w]/\Sep (pt p (wr [wf a0,wf a1,wf a2,wf a3,wf a4,wf a5])::pt x (wv (R.cad 9) dx [])::pt dx (.own x)::O) H) rfl ?_ ?_ ?_ ?_
 .exact⟨none,none,rfl,hs1⟩
 .rintro j U H ⟨v,w,rfl,hs⟩;exact⟨hS _,aX.of hs.at⟩
 .rintro j y z T U H hy hz ⟨v,w,rfl,hs⟩ hT;rw[io]at hy;obtain⟨nm,hnm,rfl⟩:=nb.mp hy;obtain⟨i,hi,rfl⟩:∃ i,([a0,a1,a2,a3,a4,a5]:List Int)[j]? =some i/\z=wf i:=by
   have hz':(([a0,a1,a2,a3,a4,a5]:List Int).map wf)[j]? =some z:=hz;rw[io]at hz';obtain⟨i,h1,h2⟩:=nb.mp hz';exact⟨i,h1,h2.symm⟩
  have hs2:=hs.iK (xs:=[wl nm,wf i]) hT;left;refine⟨T,_,rfl,.inl (aX.of hs2.atT),rfl,?_⟩;right;refine qO ro nofun hnm rfl ?_;rw[hf j i hi];right;exact⟨_,_,rfl,hs2.drop⟩
 .rintro U H ⟨v,w,rfl,hs⟩;right;simp only[hg];right;refine Gn (tp1:=true) (tp2:=true) (ks:=tN) (ys:=([a0,a1,a2,a3,a4,a5]:List Int).map wf) hs (hS _) (aX.of hs.at) (by decide+kernel) rfl (pc rfl) (λd H2 hs2=>?_);right;rename_i H3 hs3;refine q _ ?_;refine gd (dx:=dx) (d:=d) rfl ?_;walk_at "sp"
def x8 {j:Nat}{x:Str}(ro:Ro K R)(hk:1<=k)(hj:lq[j]? =some x)(q:Q (.bl true) H):aa tab R k 10 [wl x] H Q E:=by
 delta jN;right;obtain⟨a,hg,hs⟩:=ro.g_NAMES;simp only[hg];have hs':=hs H;rw[<-ro.hK]at hs';right;refine Gv hs' rfl rfl ?_;rcases je hj with⟨rfl,rfl⟩|⟨rfl,rfl⟩|⟨rfl,rfl⟩|⟨rfl,rfl⟩|⟨rfl,rfl⟩|⟨rfl,rfl⟩<;>exact q
def cZ {b:Addr}{j:Nat}{x:Str}(ro:Ro K R)(hk:2<=k)(s:Sep (boxes R b ns::O) H)(hj:lq[j]? =some x)(hi:ns[j]? =some i)(q:Q (wf i) H):aa tab R k 14 [v4 b,wl x] H Q E:=by
 obtain⟨dx,d,hn,s⟩:=fW s;delta eO;right;refine x8 ro nofun hj ?_;right;obtain⟨i',h1,h2⟩:=sF hn hj;rw[hi]at h1;cases h1;exact qa (k:=.inr x) (by grind) h2 q
def uN {b:Addr}(ro:Ro K R)(hk:5<=k)(s:Sep (boxes R b ns::O) H)(q:∀ c H',Sep (boxes R c ns::boxes R b ns::O) H'->Q (v4 c) H'):aa tab R k 17 [v4 b] H Q E:=by
 delta eg;right;intro x dx h1 h2 h3;refine sv (ns:=[0,0,0,1,0,0]) ro nofun rfl ?_ (gS s h1 h2 h3) (λH1 hs1=>?_)
 .intro j i hi;rcases j with _|_|_|_|_|_|j<;>first|(cases hi;rfl)|exact absurd hi (by simp)
 refine⟨rfl,?_⟩;obtain⟨dx1,d1,hn1,hs2⟩:=fW hs1;obtain⟨dx2,d2,hn2,hs3⟩:=fW (hs2.pull .k3);right;refine zM hs3 (by grind) (λd3 H3 hs4=>?_);right;rename_i H4 hs5;refine q _ _ ?_;refine gd (dx:=dx1) (d:=d3) hn2 ?_;refine Sep.push .k3 (gd (dx:=dx2) (d:=d2) hn2 ?_);walk_at "sp"
def fT {x:Addr}{w:V}(hk:1<=k)(s:Sep (pt x (.exc (R.cad 3) none [] true)::O) H)(q:∀ d H',Sep (pt x (.exc (R.cad 3) (some d) [("box",v),("number",w)] true)::pt d (.own x)::O) H'->Q wn H'):aa tab R k 2 [v4 x,v,w] H Q E:=by
 delta cC;right;refine⟨_,3,_,_,_,_,rfl,by grind,rfl,?_⟩;right;refine sU s rfl rfl (λd H hs=>?_);right;refine G1 hs (by ac_rfl) rfl rfl (pc rfl) rfl (λH hs=>?_);right;exact q d H hs
abbrev FQ:V->Bool
 | wl x=>FA (wl x) (lq.map wl)
 |_=>false
def lJ {t:String}(ro:Ro K R)(hk:1<=k)(ht:tyName v H=some t)(q:Q (.bl (FQ v)) H):aa tab R k 10 [v] H Q E:=by
 delta jN;right;obtain⟨a,hg,hs⟩:=ro.g_NAMES;have hs':=hs H;rw[<-ro.hK]at hs';cases iG ht
 case str x=>
  refine gf ht rfl ?_;left;refine bj rfl ?_;left;simp only[hg];right;exact Gv hs' rfl rfl q
 all_goals
  refine gf ht rfl ?_;right;exact q
def qL {j:Nat}{x:Str}(hj:lq[j]? =some x):FQ (wl x)=true:=by
 rcases je hj with⟨rfl,rfl⟩|⟨rfl,rfl⟩|⟨rfl,rfl⟩|⟨rfl,rfl⟩|⟨rfl,rfl⟩|⟨rfl,rfl⟩<;>rfl
def AQ {j:Nat}{x:Str}(hn:ns.length=6)(hj:lq[j]? =some x):putK (tN.zip (ns.map wf)) (.inr x) (wf i)=tN.zip ((ns.set j i).map wf):=by
 obtain⟨a,b,c,d,e,f,rfl⟩:=six hn;rcases je hj with⟨rfl,rfl⟩|⟨rfl,rfl⟩|⟨rfl,rfl⟩|⟨rfl,rfl⟩|⟨rfl,rfl⟩|⟨rfl,rfl⟩<;>rfl
def Ec {b:Addr}{j:Nat}{x:Str}(ro:Ro K R)(hk:4<=k)(s:Sep (boxes R b ns::O) H)(hj:lq[j]? =some x)(hf:cQ j (wf i)=true)(q:∀ H',Sep (boxes R b (ns.set j i)::O) H'->Q wn H'):aa tab R k 15 [v4 b,wl x,wf i] H Q E:=by
 obtain⟨dx,d,hn,s⟩:=fW s;delta cU;right;refine lJ (t:="str") ro nofun rfl ?_;rw[qL hj];right;refine qO ro nofun hj rfl ?_;rw[hf];right;refine Hf (k:=.inr x) (kvs':=tN.zip ((ns.set j i).map wf)) s (by ac_rfl) (by rw[length_zip,ci,hn];decide) (AQ hn hj) (λH1 hs1=>?_);right;exact q H1 (gd (by rw[length_set];exact hn) hs1)
def rB {b:Addr}{j:Nat}{x:Str}{t:String}(ro:Ro K R)(hk:4<=k)(s:Sep (boxes R b ns::O) H)(hj:lq[j]? =some x)(ht:tyName v H=some t)(hf:cQ j v=false)(q:∀ e d H',Sep (pt e (.exc (R.cad 3) (some d) [("box",wl x),("number",v)] false)::pt d (.own e)::boxes R b ns::O) H'->E e H'):aa tab R k 15 [v4 b,wl x,v] H Q E:=by
 delta cU;right;refine lJ (t:="str") ro nofun rfl ?_;rw[qL hj];right;refine qO ro nofun hj ht ?_;rw[hf];right;intro e he;refine fT nofun (s.new he) (λd H3 hs3=>⟨rfl,?_⟩);exact dU (G:=⟨tab,R,aa tab R (k-1),.calm⟩) hs3 .e rfl (λH4 hs4=>q e d H4 hs4)
abbrev Ob (R:Rt)(A:aj)(b:Addr)(i:Nat)(fl:List Str):Prop:=∀ H D,A.p H D->∃ dx fs,H b=some (wv (R.cad i) dx fs)/\fs.map (·.1)=fl
def rZ {m:Str}:∀ {fs:List (Str×V)},(fs.map (·.1)).all (λx=>!(m ==x))=true->fs.lookup m=none
 | [],_=>rfl
 |(x,v)::fs,h=>by
  simp only[map_cons,all_cons,mo]at h;have h1:(m ==x)=false:=by simpa using h.1
  rw[lookup_cons,h1];exact rZ h.2
def ag {b:Addr}{i f:Nat}{fl:List Str}{m:Str}{X:Nat->Prop}(o:Ob G.R A b i fl)(s:Sep O H)(p:ae A O Δ)(hm:fl.all (λx=>!(m ==x))=true) (hf:G.T.me.lookup (i,m)=some f) (h:X f):
  ∃ p' i' dx fs f',v4 b=v4 p'/\H p'=some (wv (G.R.cad i') dx fs)/\fs.lookup m=none/\G.T.me.lookup (i',m)=some f'/\X f':=by
 obtain⟨D,k,D1,D2,s1,s2,dj,h1,h2⟩:=s.pull p;obtain⟨dx,fs,e1,e2⟩:=o H D1 h1;exact⟨b,i,dx,fs,f,rfl,e1,rZ (e2▸hm),hf,h⟩
structure Bx where
 h:Int
 t:Int
 l:Int
 w:Int
 s:Int
 m:Int
abbrev Bx.ls (x:Bx):List Int:=[x.h,x.t,x.l,x.w,x.s,x.m]
abbrev Bx.ok (x:Bx):Prop:=(-1000000000<=x.h/\x.h<=1000000000)/\(-1000000000<=x.t/\x.t<=1000000000)/\(0<=x.l/\x.l<=1000000000)/\(x.w=1\/x.w= -1)/\(0<=x.s/\x.s<=1000000000)/\(x.m=0\/x.m=1)
abbrev ar (R:Rt)(b:Addr)(x:Bx):aj:=bx λ_:Unit=>[boxes R b x.ls,pu x.ok]
variable {x:Bx}
def dh {b:Addr}(s:Sep (ar R b x::O) H):x.ok/\Sep (boxes R b x.ls::O) H:=by
 obtain⟨_,s⟩:=iS s;have s:Sep (boxes R b x.ls::pu x.ok::O) H:=s;exact⟨(s.pull .k1).pure,(s.pull .k1).drop⟩
def kW {b:Addr}(hx:x.ok)(s:Sep (boxes R b x.ls::O) H):Sep (ar R b x::O) H:=gP () (Sep.push .k1 (Sep.yo hx s))
def kN {b:Addr}(s:Sep O H)(p:ae (ar R b x) O Δ):x.ok:=(dh (s.pull p)).1
def aW {b:Addr}:Ob R (ar R b x) b 9 ["numbers"]:=by
 rintro H D ⟨_,D1,D2,_,_,_,⟨⟨dx,d⟩,E1,E2,_,_,_,⟨_,h⟩,_⟩,_⟩;exact⟨dx,_,h,rfl⟩
def D9 (h:x.ok):∀ (j:Nat) i,x.ls[j]? =some i->cQ j (wf i)=true:=by
 obtain⟨⟨h1,h2⟩,⟨h3,h4⟩,⟨h5,h6⟩,h7,⟨h8,h9⟩,h10⟩:=h;intro j i hi;rcases j with _|_|_|_|_|_|j
 .cases hi;simp[cQ,gT,h1,h2]
 .cases hi;simp[cQ,gT,h3,h4]
 .cases hi;simp[cQ,gX,h5,h6]
 .cases hi;rcases h7 with e|e<;>rw[e]<;>rfl
 .cases hi;simp[cQ,gX,h8,h9]
 .cases hi;rcases h10 with e|e<;>rw[e]<;>rfl
 .exact absurd hi (by simp[Bx.ls])
def sW (h: -1000000000<=i/\i<=1000000000):gT (wf i)=true:=by simp[gT,h.1,h.2]
def tX (h:0<=i/\i<=1000000000):gX (wf i)=true:=by simp[gX,h.1,h.2]
section
variable {b:Addr}{h t l w s m i:Int}
def Gi (ro:Ro K R)(hk:2<=k)(z:Sep O H)(p:ae (ar R b ⟨h,t,l,w,s,m⟩) O Δ)(q:Q (wf h) H):aa tab R k 14 [v4 b,wl "here"] H Q E:=cZ (j:=0) ro hk (dh (z.pull p)).2 rfl rfl q
def F8 (ro:Ro K R)(hk:2<=k)(z:Sep O H)(p:ae (ar R b ⟨h,t,l,w,s,m⟩) O Δ)(q:Q (wf t) H):aa tab R k 14 [v4 b,wl "there"] H Q E:=cZ (j:=1) ro hk (dh (z.pull p)).2 rfl rfl q
def EZ (ro:Ro K R)(hk:2<=k)(z:Sep O H)(p:ae (ar R b ⟨h,t,l,w,s,m⟩) O Δ)(q:Q (wf l) H):aa tab R k 14 [v4 b,wl "left"] H Q E:=cZ (j:=2) ro hk (dh (z.pull p)).2 rfl rfl q
def EH (ro:Ro K R)(hk:2<=k)(z:Sep O H)(p:ae (ar R b ⟨h,t,l,w,s,m⟩) O Δ)(q:Q (wf w) H):aa tab R k 14 [v4 b,wl "way"] H Q E:=cZ (j:=3) ro hk (dh (z.pull p)).2 rfl rfl q
def Jr (ro:Ro K R)(hk:2<=k)(z:Sep O H)(p:ae (ar R b ⟨h,t,l,w,s,m⟩) O Δ)(q:Q (wf s) H):aa tab R k 14 [v4 b,wl "sign"] H Q E:=cZ (j:=4) ro hk (dh (z.pull p)).2 rfl rfl q
def HQ (ro:Ro K R)(hk:2<=k)(z:Sep O H)(p:ae (ar R b ⟨h,t,l,w,s,m⟩) O Δ)(q:Q (wf m) H):aa tab R k 14 [v4 b,wl "met"] H Q E:=cZ (j:=5) ro hk (dh (z.pull p)).2 rfl rfl q
def sN {y:Bx}{j:Nat}{nm:Str}(ro:Ro K R)(hk:4<=k)(z:Sep O H)(r:aI (ar R b x) (ar R b y) O Γ')(hj:lq[j]? =some nm)(hf:cQ j (wf i)=true)(hx:x.ls.set j i=y.ls)(hy:x.ok->y.ok)(q:∀ H',Sep Γ' H'->Q wn H'):aa tab R k 15 [v4 b,wl nm,wf i] H Q E:=by
 obtain⟨Δ,h1,h2⟩:=r.bz;obtain⟨hok,z2⟩:=dh (z.pull h1);refine Ec ro hk z2 hj hf (λH' z3=>q H' (Sep.push h2 (kW (hy hok) ?_)));rw[hx]at z3;exact z3
def FW (ro:Ro K R)(hk:4<=k)(z:Sep O H)(r:aI (ar R b ⟨h,t,l,w,s,m⟩) (ar R b ⟨i,t,l,w,s,m⟩) O Γ')(hi: -1000000000<=i/\i<=1000000000)(q:∀ H',Sep Γ' H'->Q wn H'):aa tab R k 15 [v4 b,wl "here",wf i] H Q E:=
 sN (j:=0) ro hk z r rfl (sW hi) rfl (λ⟨_,a⟩=>⟨hi,a⟩) q
def Gh (ro:Ro K R)(hk:4<=k)(z:Sep O H)(r:aI (ar R b ⟨h,t,l,w,s,m⟩) (ar R b ⟨h,i,l,w,s,m⟩) O Γ')(hi: -1000000000<=i/\i<=1000000000)(q:∀ H',Sep Γ' H'->Q wn H'):aa tab R k 15 [v4 b,wl "there",wf i] H Q E:=
 sN (j:=1) ro hk z r rfl (sW hi) rfl (λ⟨a1,_,a⟩=>⟨a1,hi,a⟩) q
def HK (ro:Ro K R)(hk:4<=k)(z:Sep O H)(r:aI (ar R b ⟨h,t,l,w,s,m⟩) (ar R b ⟨h,t,i,w,s,m⟩) O Γ')(hi:0<=i/\i<=1000000000)(q:∀ H',Sep Γ' H'->Q wn H'):aa tab R k 15 [v4 b,wl "left",wf i] H Q E:=
 sN (j:=2) ro hk z r rfl (tX hi) rfl (λ⟨a1,a2,_,a⟩=>⟨a1,a2,hi,a⟩) q
def lG (ro:Ro K R)(hk:1<=k)(z:Sep O H)(p:ae (ar R b x) O Δ)(q:∀ t H',Sep (tu t (x.ls.map wf)::O) H'->Q (v4 t) H'):aa tab R k 16 [v4 b] H Q E:=by
 obtain⟨hok,z2⟩:=dh (z.pull p);exact Bg ro hk z2 (λt H' z3=>q t H' (Sep.push (.t p) (kW hok (z3.pull .k1))))
def zD (ro:Ro K R)(hk:4<=k)(hx:x.ok)(z:Sep (pt b (wv (R.cad 9) dx [])::pt dx (.own b)::O) H)(q:∀ H',Sep (ar R b x::O) H'->Q wn H'):
  aa tab R k 13 (v4 b::x.ls.map wf) H Q E:=sv ro hk rfl (D9 hx) z (λH' z2=>q H' (kW hx z2))
def vV (ro:Ro K R)(hk:4<=k)(hx:(Bx.mk h t l w s m).ok)(z:Sep (pt b (wv (R.cad 9) dx [])::pt dx (.own b)::O) H)(q:∀ H',Sep (ar R b ⟨h,t,l,w,s,m⟩::O) H'->Q wn H'):
  aa tab R k 13 [v4 b,wf h,wf t,wf l,wf w,wf s,wf m] H Q E:=zD (x:=⟨h,t,l,w,s,m⟩) ro hk hx z q
end
abbrev gt (cs:List Int)(i:Int):Int:=(cs[i.toNat]?).getD 0
def zv {cs:List Int}(h0:0<=i)(h1:i<cs.length):cs[i.toNat]? =some (gt cs i):=by
 unfold gt;rw[li nofun]
 rfl
def rV {cs:List Int}(h0:0<=i)(h1:i<cs.length):kU (cs.map wf) i=some (wf (gt cs i)):=cR h0 (by rw[io,zv h0 h1];rfl)
def CB {cs:List Int}(hc:jM cs):0<=gt cs i/\gt cs i<=1000000000:=by
 unfold gt;cases e:cs[i.toNat]? with
 |none=>exact⟨by decide,by decide⟩
 |some x=>exact hc x (db e)
abbrev xp (cs:List Int)(ws:List Str):Prop:=cs.length=ws.length/\1<=cs.length/\cs.length<=60/\jM cs
abbrev yW (R:Rt)(a:Addr)(cs:List Int)(ws:List Str):aj:=bx λ_:Unit=>[fA (R.cad 23) a (cs.map wf) (ws.map wl),pu (xp cs ws)]
def vE {cs:List Int}(s:Sep (yW R a cs ws::O) H):xp cs ws/\Sep (fA (R.cad 23) a (cs.map wf) (ws.map wl)::O) H:=by
 obtain⟨_,s⟩:=iS s;have s:Sep (fA (R.cad 23) a (cs.map wf) (ws.map wl)::pu (xp cs ws)::O) H:=s;exact⟨(s.pull .k1).pure,(s.pull .k1).drop⟩
def vC {cs:List Int}(hx:xp cs ws)(s:Sep (fA (R.cad 23) a (cs.map wf) (ws.map wl)::O) H):Sep (yW R a cs ws::O) H:=gP () (Sep.push .k1 (Sep.yo hx s))
def DX {cs:List Int}(s:Sep O H)(p:ae (yW R a cs ws) O Δ):xp cs ws:=(vE (s.pull p)).1
def yc {cs:List Int}:Ob R (yW R a cs ws) a 23 ["contents","permits"]:=by
 rintro H D ⟨_,D1,D2,_,_,_,⟨⟨dx,c,d⟩,E1,E2,_,_,_,⟨_,h⟩,_⟩,_⟩;exact⟨dx,_,h,rfl⟩
section
variable {a:Addr}{cs:List Int}{ws:List Str}{i v:Int}
end
def uj {cs:List Int}(h1:1<=cs.length)(h60:cs.length<=60)(hc:jM cs):bad (cs.map wf)=none:=by
 refine ot (by rw[ci];exact⟨h1,h60⟩) λi y hy=>?_
 rw[io]at hy;obtain⟨z,hz,rfl⟩:=nb.mp hy;exact tX (hc z (db hz))
def vx {cs:List Int}(s:Sep O H):Sep (tys (cs.map wf)::O) H:=Sep.GL (λx hx=>by
 obtain⟨z,_,rfl⟩:=List.mem_map.mp hx;exact⟨"int",rfl⟩) s
def si {p:Addr}{cs:List Int}(ro:Ro K R)(hk:4<=k)(h1:1<=cs.length)(h60:cs.length<=60)(hc:jM cs)(s:Sep (pt p (wv (R.cad 23) dx [])::pt dx (.own p)::O) H)(h:ae (pt a (wp (cs.map wf))) O Δ)
  (q:∀ H',Sep (yW R p cs (sK cs.length "open")::O) H'->Q wn H'):aa tab R k 63 [v4 p,v4 a] H Q E:=by
 have s2:=vx (cs:=cs) (s.pull (.j2 h));refine mx (a:=a) (dx:=dx) (O:=Δ) ro hk (s2.sub ?_) (λ_ H' z=>q H' ?_) (λat' hb=>absurd hb (by rw[uj h1 h60 hc];exact λz=>nomatch z))
 .ac_nf
 .refine Sep.push (.t h) ?_;have e:sK (cs.map wf).length (wl "open")=(sK cs.length ("open":Str)).map wl:=by rw[ci,List.map_replicate]
  rw[e]at z;have z2:=vC (cs:=cs) ⟨by rw[length_replicate],h1,h60,hc⟩ z;exact z2.sub (by ac_nf)
def bb {T:Tab}{f:Nat}{vs':List V}(e:vs=vs')(h:aa T R k f vs' H Q E):aa T R k f vs H Q E:=e▸h
local macro_rules| `(tactic|walk_at "ag")=>`(tactic|first|refine bb (vs':=[_,_]) rfl ?_|refine bb (vs':=[_,_,_]) rfl ?_|refine bb (vs':=[_]) rfl ?_|refine bb (vs':=[_,_,_,_]) rfl ?_)
local macro_rules| `(tactic|walk_at "mt")=>`(tactic|first|((with_reducible refine' ag aW ?s ?p ?m ?f ?_);(case s=>with_reducible assumption);(case p=>symm);(case m=>exact rfl);(case f=>exact rfl))|((with_reducible refine' ag yc ?s ?p ?m ?f ?_);(case s=>with_reducible assumption);(case p=>symm);(case m=>exact rfl);(case f=>exact rfl)))
local macro_rules| `(tactic|walk_at "hq")=>`(tactic|((with_reducible (first|refine' Gi ?r ?k ?s ?p ?_|refine' F8 ?r ?k ?s ?p ?_|refine' EZ ?r ?k ?s ?p ?_|refine' EH ?r ?k ?s ?p ?_|refine' Jr ?r ?k ?s ?p ?_|refine' HQ ?r ?k ?s ?p ?_));(case r=>with_reducible assumption);(case k=>exact nofun);(case s=>with_reducible assumption);(case p=>symm)))
local macro_rules| `(tactic|walk_at "gq")=>`(tactic|((with_reducible (first|refine' FW ?r ?k ?s ?p ?i (λH hs=>?_)|refine' Gh ?r ?k ?s ?p ?i (λH hs=>?_)|refine' HK ?r ?k ?s ?p ?i (λH hs=>?_)|refine' gi_m ?r ?k ?s ?p ?i (λH hs=>?_)));(case r=>with_reducible assumption);(case k=>exact nofun);(case s=>with_reducible assumption);(case p=>ac_rfl);(case i=>omega)))
local macro_rules| `(tactic|walk_at "ws")=>`(tactic|(walk_at "w";repeat(first|(walk_at "st";walk_at "w")|(walk_at "mt";walk_at "w")|(walk_at "ag";(walk_at "hq");walk_at "w")|(walk_at "ag";(walk_at "gq");walk_at "w"))))
local macro_rules| `(tactic|walk_at "sc")=>`(tactic|first|(refine bj (by decide+kernel) ?_;walk_at "go")|(refine aO (by decide+kernel) ?_;walk_at "go"))
inductive Out where
 |on (r:Int) (x:Bx) (cs:List Int)
 |no (d:Str) (c:Int)
section
variable {b a:Addr}{h t l w s m i j by':Int}{cs:List Int}{ws:List Str}
def Fo (ro:Ro K R)(hk:5<=k)(z:Sep O H)(r:aI (ar R b ⟨h,t,l,w,s,m⟩) (ar R b ⟨h+i,t,l,w,s,m⟩) O Γ')(hi: -1000000000<=h+i/\h+i<=1000000000)(q:∀ H',Sep Γ' H'->Q wn H'):aa tab R k 35 [v4 b,wl "here",wf i] H Q E:=by
 obtain⟨Δ,p1,p2⟩:=r.bz;delta mq;left;refine⟨rfl,?_⟩;left;refine ag aW z p1 rfl rfl ?_;left;refine⟨rfl,?_⟩;left;refine ag aW z p1 rfl rfl ?_;left;refine Gi ro nofun z p1 ?_;left;exact FW ro nofun z r hi q
def F3 (ro:Ro K R)(hk:5<=k)(z:Sep O H)(r:aI (ar R b ⟨h,t,l,w,s,m⟩) (ar R b ⟨h,t+i,l,w,s,m⟩) O Γ')(hi: -1000000000<=t+i/\t+i<=1000000000)(q:∀ H',Sep Γ' H'->Q wn H'):aa tab R k 35 [v4 b,wl "there",wf i] H Q E:=by
 obtain⟨Δ,p1,p2⟩:=r.bz;delta mq;left;refine⟨rfl,?_⟩;left;refine ag aW z p1 rfl rfl ?_;left;refine⟨rfl,?_⟩;left;refine ag aW z p1 rfl rfl ?_;left;refine F8 ro nofun z p1 ?_;left;exact Gh ro nofun z r hi q
def Jb (ro:Ro K R)(hk:5<=k)(z:Sep O H)(r:aI (ar R b ⟨h,t,l,w,s,m⟩) (ar R b ⟨h,t,l+i,w,s,m⟩) O Γ')(hi:0<=l+i/\l+i<=1000000000)(q:∀ H',Sep Γ' H'->Q wn H'):aa tab R k 35 [v4 b,wl "left",wf i] H Q E:=by
 obtain⟨Δ,p1,p2⟩:=r.bz;delta mq;left;refine⟨rfl,?_⟩;left;refine ag aW z p1 rfl rfl ?_;left;refine⟨rfl,?_⟩;left;refine ag aW z p1 rfl rfl ?_;left;refine EZ ro nofun z p1 ?_;left;exact HK ro nofun z r hi q
abbrev fin (l:Int):Int:=if l=0 then 1 else 0
def uO (ro:Ro K R)(hk:6<=k)(z:Sep O H)(r:aI (ar R b ⟨h,t,l,w,s,m⟩) (ar R b ⟨h,t,l+ -i,w,s,m⟩) O Γ')(hi:0<=l+ -i/\l+ -i<=1000000000)(q:∀ H',Sep Γ' H'->Q (wf (fin (l+ -i))) H'):aa tab R k 37 [v4 b,wf i] H Q E:=by
 obtain⟨Δ,p1,p2⟩:=r.bz;delta iz;right;refine Jb ro nofun z r hi (λH1 z1=>?_);right;refine ag aW z1 p2 rfl rfl ?_;left;refine EZ ro nofun z1 p2 ?_;right;refine bc (λe=>?_) (λe=>?_)
 .right;have q:=q H1 z1;rw[fin,if_pos e]at q;exact q
 .right;have q:=q H1 z1;rw[fin,if_neg e]at q;exact q
abbrev hm (cs:List Int)(ws:List Str)(i j:Int)(f:List Int->Out):Out:=
 if aq ws "look" i=true then(if aq ws "put" j=true then f (cs.set j.toNat (gt cs i)) else .no "put" j) else .no "look" i
abbrev fu (x:Bx)(cs:List Int)(ws:List Str):Out:=
 if x.l=0 then .on 1 x cs else if x.t<=x.h then hm cs ws x.h x.t λcs'=>.on (fin (x.l+ -1)) ⟨x.h+1,x.t+1,x.l+ -1,x.w,x.s,x.m⟩ cs'
 else hm cs ws (x.h+x.l-1) (x.t+x.l-1) λcs'=>.on (fin (x.l+ -1)) ⟨x.h,x.t,x.l+ -1,x.w,x.s,x.m⟩ cs'
abbrev xm (cs:List Int)(ws:List Str)(i j:Int)(f:List Int->Out):Out:=
 if aq ws "look" i=true then(if aq ws "look" j=true then(if aq ws "put" i=true then(if aq ws "put" j=true then f ((cs.set i.toNat (gt cs j)).set j.toNat (gt cs i)) else .no "put" j) else .no "put" i) else .no "look" j) else .no "look" i
abbrev jr (x:Bx)(cs:List Int)(ws:List Str):Out:=
 if x.l=0 then .on 1 x cs else if x.l=1 then .on 1 ⟨x.h,x.t,0,x.w,x.s,x.m⟩ cs else xm cs ws x.h (x.h+x.l-1) λcs'=>.on (fin (x.l+ -2)) ⟨x.h+1,x.t,x.l+ -2,x.w,x.s,x.m⟩ cs'
end
section
variable {b a:Addr}{h t l w s m i j:Int}{cs:List Int}{ws:List Str}
def IG (ro:Ro K R)(hk:6<=k)(z:Sep O H)(r:aI (ar R b ⟨h,t,l,w,s,m⟩) (ar R b ⟨h+w,t,l,w,s,m⟩) O Γ')(hi: -1000000000<=h+w/\h+w<=1000000000)(q:∀ H',Sep Γ' H'->Q wn H'):aa tab R k 36 [v4 b,wl "here"] H Q E:=by
 obtain⟨Δ,p1,p2⟩:=r.bz;delta dS;left;refine⟨rfl,?_⟩;left;refine⟨rfl,?_⟩;left;refine ag aW z p1 rfl rfl ?_;left;refine EH ro nofun z p1 ?_;left;exact Fo ro nofun z r hi q
def Gb (ro:Ro K R)(hk:6<=k)(z:Sep O H)(r:aI (ar R b ⟨h,t,l,w,s,m⟩) (ar R b ⟨h,t+w,l,w,s,m⟩) O Γ')(hi: -1000000000<=t+w/\t+w<=1000000000)(q:∀ H',Sep Γ' H'->Q wn H'):aa tab R k 36 [v4 b,wl "there"] H Q E:=by
 obtain⟨Δ,p1,p2⟩:=r.bz;delta dS;left;refine⟨rfl,?_⟩;left;refine⟨rfl,?_⟩;left;refine ag aW z p1 rfl rfl ?_;left;refine EH ro nofun z p1 ?_;left;exact F3 ro nofun z r hi q
abbrev ju (x:Bx)(cs:List Int)(ws:List Str):Out:=
 if x.l=0 then .on 1 x cs else hm cs ws x.h x.t λcs'=>.on (fin (x.l+ -1)) ⟨x.h+x.w,x.t+x.w,x.l+ -1,x.w,x.s,x.m⟩ cs'
abbrev j5 (x:Bx)(cs:List Int)(ws:List Str):Out:=
 if x.l=0 then .on 1 x cs else if aq ws "put" x.t=true then .on (fin (x.l+ -1)) ⟨x.h,x.t+x.w,x.l+ -1,x.w,x.s,x.m⟩ (cs.set x.t.toNat x.s) else .no "put" x.t
abbrev Gj (x:Bx)(cs:List Int)(ws:List Str):Out:=
 if x.l=0 then .on 1 ⟨x.h,x.t,x.l,x.w,x.s,0⟩ cs else if aq ws "look" x.h=true then
  (if gt cs x.h=x.s then .on 1 ⟨x.h,x.t,x.l,x.w,x.s,1⟩ cs else .on (fin (x.l+ -1)) ⟨x.h+x.w,x.t,x.l+ -1,x.w,x.s,0⟩ cs) else .no "look" x.h
abbrev Fn (x:Bx)(cs:List Int)(ws:List Str):Out:=
 if x.l=0 then .on 1 ⟨x.h,x.t,x.l,x.w,x.s,1⟩ cs else if aq ws "look" x.h=true then(if aq ws "look" x.t=true then
  (if gt cs x.h=gt cs x.t then .on (fin (x.l+ -1)) ⟨x.h+x.w,x.t+x.w,x.l+ -1,x.w,x.s,1⟩ cs else .on 1 ⟨x.h,x.t,x.l,x.w,x.s,0⟩ cs) else .no "look" x.t) else .no "look" x.h
def nt (h:c=false):¬ c=true:=by rw[h];decide
end
section
variable {cs:List Int}{f g:Nat->Int}{i v:Int}
end
abbrev dd (R:Rt)(d:Addr)(c:Nat):aj:=bx λdx:Addr=>[pt d (wv (R.cad c) dx []),pt dx (.own d)]
def ve {c:Nat}(s:Sep (pt d (wv (R.cad c) dx [])::pt dx (.own d)::O) H):Sep (dd R d c::O) H:=gP dx s
def Hg {c:Nat}:Ob R (dd R d c) d c []:=by
 rintro H D ⟨dx,D1,D2,_,_,_,⟨_,h⟩,_⟩;exact⟨dx,_,h,rfl⟩
abbrev aM (d:Addr)(x:Bx):aj:=pt d (.dK (tN.zip (x.ls.map wf)))
section
variable {d:Addr}{h t l w s m i:Int}{P:Hp->Prop}
def IL (z:Sep O H)(p:ae (aM d ⟨h,t,l,w,s,m⟩) O Δ)(q:Q (wf h) H):qk K (v4 d) (wl "here") H Q:=qa (k:=.inr "here") (z.get p) rfl q
def Ji (z:Sep O H)(p:ae (aM d ⟨h,t,l,w,s,m⟩) O Δ)(q:Q (wf t) H):qk K (v4 d) (wl "there") H Q:=qa (k:=.inr "there") (z.get p) rfl q
def IK (z:Sep O H)(p:ae (aM d ⟨h,t,l,w,s,m⟩) O Δ)(q:Q (wf l) H):qk K (v4 d) (wl "left") H Q:=qa (k:=.inr "left") (z.get p) rfl q
def Jw (z:Sep O H)(p:ae (aM d ⟨h,t,l,w,s,m⟩) O Δ)(q:Q (wf w) H):qk K (v4 d) (wl "way") H Q:=qa (k:=.inr "way") (z.get p) rfl q
def IH (z:Sep O H)(p:ae (aM d ⟨h,t,l,w,s,m⟩) O Δ)(q:Q (wf s) H):qk K (v4 d) (wl "sign") H Q:=qa (k:=.inr "sign") (z.get p) rfl q
def Js (z:Sep O H)(p:ae (aM d ⟨h,t,l,w,s,m⟩) O Δ)(q:Q (wf m) H):qk K (v4 d) (wl "met") H Q:=qa (k:=.inr "met") (z.get p) rfl q
def xy (z:Sep O H)(r:aI (pt d (.dK [])) (aM d ⟨h,t,l,w,s,m⟩) O Γ')(q:∀ H',Sep Γ' H'->Q (v4 d) H'):tH ["here","there","left","way","sign","met"] d [wf h,wf t,wf l,wf w,wf s,wf m] H Q:=by
 obtain⟨Δ,p1,p2⟩:=r.bz;unfold tH;exact⟨z.get p1,q _ (z.put r rfl)⟩
end
local macro_rules| `(tactic|walk_at "sx")=>`(tactic|((with_reducible (first|refine' IL ?s ?p ?_|refine' Ji ?s ?p ?_|refine' IK ?s ?p ?_|refine' Jw ?s ?p ?_|refine' IH ?s ?p ?_|refine' Js ?s ?p ?_));(case s=>with_reducible assumption);(case p=>symm)))
local macro_rules| `(tactic|walk_at "sy")=>`(tactic|((with_reducible (first|refine' ds_h ?s ?p (λH hs=>?_)|refine' ds_t ?s ?p (λH hs=>?_)|refine' ds_l ?s ?p (λH hs=>?_)|refine' ds_w ?s ?p (λH hs=>?_)|refine' ds_s ?s ?p (λH hs=>?_)|refine' ds_m ?s ?p (λH hs=>?_)));(case s=>with_reducible assumption);(case p=>ac_rfl)))
local macro_rules| `(tactic|walk_at "wd")=>`(tactic|(walk_at "w";repeat(first|(walk_at "sx";walk_at "w")|(walk_at "sy";walk_at "w")|(walk_at "st";walk_at "w")|(refine bf_intC ?_;walk_at "w"))))
inductive Wd where
 |copy|fill|seek|mtch|shift|turn
abbrev Wd.s:Wd->Str
 | .copy=>"copy"
 | .fill=>"fill"
 | .seek=>"seek"
 | .mtch=>"match"
 | .shift=>"shift"
 | .turn=>"turn"
abbrev eI:Wd->Bx->List Int->List Str->Out
 | .copy=>ju
 | .fill=>j5
 | .seek=>Gj
 | .mtch=>Fn
 | .shift=>fu
 | .turn=>jr
section
variable {d p:Addr}{h t l w s m:Int}{cs:List Int}{ws:List Str}
end
def j3 {xs:List α}(h0:0<=i)(h1:i<xs.length):∃ v,kU xs i=some v/\v ∈ xs:=by
 have hl:i.toNat<xs.length:=by omega
 refine⟨xs[i.toNat],?_,List.getElem_mem hl⟩;have:=L2.cT (li hl)
 rwa [Int.toNat_of_nonneg h0]at this
def ic (h0:0<=r)(h1:r<xs.length)(h:∀ v ∈ xs,P v):∃ v,kU xs r=some v/\P v:=by
 obtain⟨v,hv,hm⟩:=j3 h0 h1;exact⟨v,hv,h v hm⟩
abbrev inR (lo hi:Int)(v:V):Prop:=∃ i,v=wf i/\lo<=i/\i<=hi
def inR.mk {lo hi:Int}(h0:lo<=i)(h1:i<=hi):inR lo hi (wf i):=⟨i,rfl,h0,h1⟩
def Jx {a b:V}(ha:P a)(hb:P b):∀ v ∈ [a,b],P v:=λv hv=>by
 simp only[lw,not_mem_nil,or_false]at hv;rcases hv with rfl|rfl<;>assumption
def HZ {a b c:V}(ha:P a)(hb:P b)(hc:P c):∀ v ∈ [a,b,c],P v:=λv hv=>by
 simp only[lw,not_mem_nil,or_false]at hv;rcases hv with rfl|rfl|rfl<;>assumption
def Kn {a b c d:V}(ha:P a)(hb:P b)(hc:P c)(hd:P d):∀ v ∈ [a,b,c,d],P v:=λv hv=>by
 simp only[lw,not_mem_nil,or_false]at hv;rcases hv with rfl|rfl|rfl|rfl<;>assumption
def xb {M:Int}(hk:2<=k)(s:Sep (hand h m::O) H)(hm:m<=1099510000000)(hM0:1<=M)(hM1:M<=60)(q:∀ i H',-1000000000<=i->i<=1000000000->Sep (hand h (m+6)::O) H'->Q (wf i) H'):aa tab R k 94 [v4 h,wf M] H Q E:=by
 delta iB;walk_at "gd";rename_i wy H1 w0 w1 hs1;refine aK (λe=>?_) (λe=>?_)
 .walk_at "gd";rename_i r H2 r0 r1 hs2;exact q _ _ nofun nofun (ah hs2 nofun)
 walk_at "gd";refine aK (λe2=>?_) (λe2=>?_)
 .walk_at "gd";rename_i l H2 hs2;obtain⟨v,hv,i,rfl,i0,i1⟩:=ic (xs:=[wf 0,wf (M-1)]) (P:=inR (-1000000000) 1000000000) (r:=wy-4) nofun (by simp;omega) (Jx (.mk nofun nofun) (.mk nofun nofun));refine aP (by grind) hv ?_;exact q _ _ i0 i1 (ah (hs2.sub (by ac_nf)) nofun)
 walk_at "gd";refine bc (λe3=>?_) (λe3=>?_)
 .walk_at "gd";rename_i a H2 a0 a1 hs2 b H3 b0 b1 hs3 l H4 hs4 c H5 c0 c1 hs5;obtain⟨v,hv,i,rfl,i0,i1⟩:=ic (xs:=[wf (-1-a),wf (M+b)]) (P:=inR (-1000000000) 1000000000) (r:=c) c0 (by simp;omega) (Jx (.mk nofun nofun) (.mk nofun nofun));refine aP (by grind) hv ?_;exact q _ _ i0 i1 (ah (hs5.sub (by ac_nf)) nofun)
 walk_at "gd";rename_i a H2 a0 a1 hs2 b H3 b0 b1 hs3 c H4 c0 c1 hs4 l H5 hs5 d H6 d0 d1 hs6;rw[lR]at hs6;obtain⟨v,hv,i,rfl,i0,i1⟩:=ic (xs:=[wf (1000000000-a),wf (b-1000000000),wf c]) (P:=inR (-1000000000) 1000000000) (r:=d) d0 (by simp;omega) (HZ (.mk nofun nofun) (.mk nofun nofun) (.mk nofun nofun));refine aP (by grind) hv ?_;exact q _ _ i0 i1 (ah (hs6.sub (by ac_nf)) nofun)
abbrev eW:Nat->j9->j9
 |0,b=>b
 |n+1,.cons _ r=>eW n r
 |_+1,.nil=>.nil
def oq {p:Addr}{lf wy:Int}{cs:List Int}{v5 v6 v7:Option V}(hk:3<=k)(s:Sep (hand h m::pt p (wp (cs.map wf))::O) H)(hm:m<=1099509500000)(h1:1<=cs.length)(h60:cs.length<=60)(hc:jM cs)(l0:0<=lf)(l1:lf<=1000000000)
  (q:∀ d x H',Bx.ok x->Sep (aM d x::hand h (m+20)::pt p (wp (cs.map wf))::O) H'->Q (v4 d) H'):
  wB (eW 4 fJ.body) ⟨tab,R,aa tab R (k-1),.calm⟩ { nx:=λ_ H'=>Q wn H',rt:=Q } (λ_=>E) [some (v4 h),some (v4 p),some (wf cs.length),some (wf wy),some (wf lf),v5,v6,v7] H:=by
 walk_at "gd";rename_i r H1 r0 r1 hs1;refine aP (by grind) (rV r0 r1) ?_;walk_at "gd";refine lb (m:=m+1) nofun hs1 nofun (λct H2 c0 c1 hs2=>?_);walk_at "gd";rename_i l2 H3 hs3 r3 H4 r30 r31 hs4;obtain⟨v,hv,sg,rfl,sg0,sg1⟩:=ic (xs:=[wf (gt cs r),wf ct]) (P:=inR 0 1000000000) (r:=r3 / 3) nofun (by simp;omega) (Jx (.mk (CB hc).1 (CB hc).2) (.mk c0 c1));refine aP (by grind) hv ?_;walk_at "gd";refine xb (m:=m+5) (O:=pt p (wp (cs.map wf))::O) nofun (ah (hs4.sub (by ac_nf)) nofun) nofun nofun nofun (λhh H5 hh0 hh1 hs5=>?_);walk_at "gd";refine xb (m:=m+11) nofun (ah hs5 nofun) nofun nofun nofun (λtt H6 tt0 tt1 hs6=>?_);walk_at "gd";rename_i w2 H7 w20 w21 hs7;intro d hd;have hs8:=hs7.new (o:=.dK []) hd;generalize upd H7 d (.dK [])=H8 at hs8⊢;walk_at "gd";rename_i mt H9 mt0 mt1 hs9;refine xy hs9 (by ac_rfl) (λH10 hs10=>?_);refine q d ⟨hh,tt,lf,1-2*w2,sg,mt⟩ H10 ?_ ((ah hs10 nofun).pull .k1);refine⟨⟨hh0,hh1⟩,⟨tt0,tt1⟩,⟨l0,l1⟩,?_,⟨sg0,sg1⟩,?_⟩<;>dsimp only<;>omega
def Ez {p:Addr}{cs:List Int}(hk:3<=k)(s:Sep (hand h m::pt p (wp (cs.map wf))::O) H)(hm:m<=1099509000000)(h1:1<=cs.length)(h60:cs.length<=60)(hc:jM cs)
  (q:∀ d x H',Bx.ok x->Sep (aM d x::hand h (m+30)::pt p (wp (cs.map wf))::O) H'->Q (v4 d) H'):aa tab R k 95 [v4 h,v4 p] H Q E:=by
 delta fJ;right;rw[ci];walk_at "gd";rename_i wy H1 w0 w1 hs1 a H2 a0 a1 hs2 b H3 b0 b1 hs3 c H4 c0 c1 hs4 l1 H5 hs5;obtain⟨v,hv,lf,rfl,lf0,lf1⟩:=ic (xs:=[wf a,wf b,wf (cs.length+c)]) (P:=inR 0 1000000000) (r:=wy % 3) nofun (by simp;omega) (HZ (.mk nofun nofun) (.mk nofun nofun) (.mk nofun nofun));refine aP (by grind) hv ?_;have hs6:Sep (hand h (m+9)::pt p (wp (cs.map wf))::O) H5:=ah (hs5.sub (by ac_nf)) nofun;clear hs1 hs2 hs3 hs4 hs5 hv;left;refine iW rfl rfl ?_;left;refine bc (λe=>?_) (λe=>?_)
 .right;refine yH nofun hs6 nofun nofun nofun (λr H7 r0 r1 hs7=>?_);rw[lR];exact oq (m:=m+10) hk (ah hs7 nofun) nofun h1 h60 hc nofun nofun (λd x H' hx hs=>q d x H' hx (by rw[show m+30=m+10+20 by omega];exact hs))
 .exact oq (m:=m+10) hk (ah hs6 nofun) nofun h1 h60 hc lf0 lf1 (λd x H' hx hs=>q d x H' hx (by rw[show m+30=m+10+20 by omega];exact hs))
def vT (ro:Ro K R)(hk:5<=k)(hx:x.ok)(z:Sep (aM d x::O) H)(q:∀ b H',Sep (ar R b x::aM d x::O) H'->Q (v4 b) H'):aa tab R k 98 [v4 d] H Q E:=by
 obtain⟨h,t,l,w,s,m⟩:=x;delta gr;walk_at "wd";intro b dx g1 g2 g3;exact vV ro nofun hx (gS z g1 g2 g3) (λH2 z2=>⟨rfl,q b H2 z2⟩)
abbrev Wd.cl:Wd->Nat
 | .copy=>16
 | .fill=>17
 | .seek=>18
 | .mtch=>19
 | .shift=>20
 | .turn=>21
def Fg {t p:Addr}(h1:H t=some (wr (ns.map wf)))(h2:H p=some (wr (ns.map wf))):cg R.K H 2 (v4 t) (v4 p) true:=
 gR (n:=0) h1 h2 rfl λj x y e1 e2=>by
  rw[e1]at e2;cases e2;rw[io]at e1;obtain⟨i,_,rfl⟩:=nb.mp e1;exact aY (t:="int") rfl
def vA {t p:Addr}(s:Sep O H)(h:ae (tu t xs) O Δ)(hp:H p=none):t≠p:=by
 rintro rfl;rw[s.fk h]at hp;cases hp
def vR:(tN.zip (x.ls.map wf)).map (·.2)=x.ls.map wf:=rfl
def vH {tp:Bool}{kvs:List (Key×V)}(s:Sep O H)(e:H d=some (.dK kvs))(h:∀ p H',H p=none->Sep (pt p (y8 tp (kvs.map (·.2)))::O) H'->Q (v4 p) H'):pd tp (v4 d) H Q:=by unfold pd;exact⟨d,kvs,rfl,e,λp hp=>h p _ hp (s.new hp)⟩
inductive Bn where
 |h
 |t
 |l
 |w
 |s
 |m
abbrev Bn.j:Bn->Nat
 | .h=>0
 | .t=>1
 | .l=>2
 | .w=>3
 | .s=>4
 | .m=>5
abbrev Bn.nm:Bn->Str
 | .h=>"here"
 | .t=>"there"
 | .l=>"left"
 | .w=>"way"
 | .s=>"sign"
 | .m=>"met"
def Bn.at (b:Bn):lq[b.j]? =some b.nm:=by cases b<;>rfl
abbrev Bx.g (x:Bx):Bn->Int
 | .h=>x.h
 | .t=>x.t
 | .l=>x.l
 | .w=>x.w
 | .s=>x.s
 | .m=>x.m
abbrev Bx.p (x:Bx)(i:Int):Bn->Bx
 | .h=>⟨i,x.t,x.l,x.w,x.s,x.m⟩
 | .t=>⟨x.h,i,x.l,x.w,x.s,x.m⟩
 | .l=>⟨x.h,x.t,i,x.w,x.s,x.m⟩
 | .w=>⟨x.h,x.t,x.l,i,x.s,x.m⟩
 | .s=>⟨x.h,x.t,x.l,x.w,i,x.m⟩
 | .m=>⟨x.h,x.t,x.l,x.w,x.s,i⟩
def Bx.gl (x:Bx)(b:Bn):x.ls[b.j]? =some (x.g b):=by cases b<;>rfl
def Bx.pl (x:Bx)(i:Int)(b:Bn):x.ls.set b.j i=(x.p i b).ls:=by cases b<;>rfl
abbrev rh (b:Bn)(i:Int):Bool:=cQ b.j (wf i)
def yv {b:Bn}(h:rh b i=true)(o:x.ok):(x.p i b).ok:=by
 obtain⟨o1,o2,o3,o4,o5,o6⟩:=o;cases b
 .have h:(decide (-1000000000<=i)&&decide (i<=1000000000))=true:=h;have h: -1000000000<=i/\i<=1000000000:=by simpa using h
  exact⟨h,o2,o3,o4,o5,o6⟩
 .have h:(decide (-1000000000<=i)&&decide (i<=1000000000))=true:=h;have h: -1000000000<=i/\i<=1000000000:=by simpa using h
  exact⟨o1,h,o3,o4,o5,o6⟩
 .have h:(decide (0<=i)&&decide (i<=1000000000))=true:=h;have h:0<=i/\i<=1000000000:=by simpa using h
  exact⟨o1,o2,h,o4,o5,o6⟩
 .have h:(i ==1||i == -1)=true:=h;have h:i=1\/i= -1:=by simpa using h
  exact⟨o1,o2,o3,h,o5,o6⟩
 .have h:(decide (0<=i)&&decide (i<=1000000000))=true:=h;have h:0<=i/\i<=1000000000:=by simpa using h
  exact⟨o1,o2,o3,o4,h,o6⟩
 .have h:(i ==0||i ==1)=true:=h;have h:i=0\/i=1:=by simpa using h
  exact⟨o1,o2,o3,o4,o5,h⟩
def wa (h0:0<=r)(h1:r<6):∃ b:Bn,kU [wl "here",wl "there",wl "left",wl "way",wl "sign",wl "met"] r=some (wl b.nm):=by
 have:r=0\/r=1\/r=2\/r=3\/r=4\/r=5:=by omega
 rcases this with rfl|rfl|rfl|rfl|rfl|rfl
 .exact⟨.h,rfl⟩
 .exact⟨.t,rfl⟩
 .exact⟨.l,rfl⟩
 .exact⟨.w,rfl⟩
 .exact⟨.s,rfl⟩
 .exact⟨.m,rfl⟩
def JI {b:Addr}{n:Bn}(ro:Ro K R)(hk:4<=k)(z:Sep (ar R b x::O) H)(q0:rh n i=true->∀ H',Sep (ar R b (x.p i n)::O) H'->Q wn H')
  (q1:rh n i=false->∀ e H',Sep (i8 (R.cad 3) [("box",wl n.nm),("number",wf i)] e false::ar R b x::O) H'->E e H'):aa tab R k 15 [v4 b,wl n.nm,wf i] H Q E:=by
 cases h:rh n i with
 |true=>exact sN ro hk z .e n.at h (x.pl i n) (yv h) (q0 h)
 |false=>
  obtain⟨o,z2⟩:=dh z;exact rB ro hk z2 n.at rfl h λe d H' z3=>q1 h e H' (ir (Sep.push .k2 (kW o (z3.pull .k2))))
def zV {b:Addr}{n:Bn}(ro:Ro K R)(hk:2<=k)(z:Sep O H)(p:ae (ar R b x) O Δ)(q:Q (wf (x.g n)) H):aa tab R k 14 [v4 b,wl n.nm] H Q E:=cZ ro hk (dh (z.pull p)).2 n.at (x.gl n) q
inductive Sp where
 |set (b:Bn) (i:Int)
 |add (b:Bn) (i:Int)
 |take (b c:Bn)
 |read (b:Bn)
 |write (b:Bn)
abbrev Sp.w:Sp->Str
 | .set _ _=>"set"
 | .add _ _=>"add"
 | .take _ _=>"take"
 | .read _=>"read"
 | .write _=>"write"
abbrev Sp.b:Sp->Bn
 | .set b _=>b
 | .add b _=>b
 | .take b _=>b
 | .read b=>b
 | .write b=>b
abbrev Sp.tl:Sp->List V
 | .set b i=>[wl "set",wl b.nm,wf i]
 | .add b i=>[wl "add",wl b.nm,wf i]
 | .take b c=>[wl "take",wl b.nm,wl c.nm]
 | .read b=>[wl "read",wl b.nm]
 | .write b=>[wl "write",wl b.nm]
abbrev Sp.cl:Sp->Nat
 | .set _ _=>11
 | .add _ _=>12
 | .take _ _=>13
 | .read _=>14
 | .write _=>15
abbrev Sp.fs:Sp->List (Str×V)
 | .set b i=>[("box",wl b.nm),("number",wf i)]
 | .add b i=>[("box",wl b.nm),("number",wf i)]
 | .take b c=>[("box",wl b.nm),("other",wl c.nm)]
 | .read b=>[("box",wl b.nm)]
 | .write b=>[("box",wl b.nm)]
abbrev Sp.ok:Sp->Prop
 | .set _ i=>-1000000000<=i/\i<=1000000000
 | .add _ i=>-1000000000<=i/\i<=1000000000
 |_=>True
inductive qG where
 |on (x:Bx) (cs:List Int)
 |no (d:Str) (c:Int)
 |nf (b:Bn) (i:Int)
abbrev dR (x:Bx)(cs:List Int)(b:Bn)(i:Int):qG:=if rh b i=true then .on (x.p i b) cs else .nf b i
abbrev iM (x:Bx)(cs:List Int)(ws:List Str):Sp->qG
 | .set b i=>dR x cs b i
 | .add b i=>dR x cs b (x.g b+i)
 | .take b c=>dR x cs b (x.g c)
 | .read b=>if aq ws "look" x.h=true then dR x cs b (gt cs x.h) else .no "look" x.h
 | .write b=>if gX (wf (x.g b))=true then(if aq ws "put" x.t=true then .on x (cs.set x.t.toNat (x.g b)) else .no "put" x.t) else .nf b (x.g b)
abbrev sd (R:Rt)(d:Addr)(sp:Sp):aj:=bx λdx:Addr=>[pt d (wv (R.cad sp.cl) dx sp.fs),pt dx (.own d)]
def wV (s:Sep (pt d (wv (R.cad sp.cl) dx sp.fs)::pt dx (.own d)::O) H):Sep (sd R d sp::O) H:=gP dx s
def sD (s:Sep O H)(p:ae (sd R d sp) O Δ):∃ dx,H d=some (wv (R.cad sp.cl) dx sp.fs):=by
 obtain⟨dx,s⟩:=iS (s.pull p);exact⟨dx,Sep.at s⟩
def Hr:Ob R (sd R d sp) d sp.cl (sp.fs.map (·.1)):=by
 rintro H D ⟨dx,D1,D2,_,_,_,⟨_,h⟩,_⟩;exact⟨dx,_,h,rfl⟩
def a9 {w:Str}{n:Bn}(ro:Ro K R)(hk:2<=k)(q:Q wn H):aa tab R k 18 [wl w,wl n.nm] H Q E:=by
 delta hW;right;refine lJ (t:="str") ro nofun rfl ?_;rw[qL n.at];right;exact q
def dW {w:Str}(ro:Ro K R)(hk:3<=k)(h0: -1000000000<=i)(h1:i<=1000000000)(q:Q wn H):aa tab R k 19 [wl w,wf i] H Q E:=by
 delta dQ;right;refine d5 (t:="int") ro nofun rfl ?_;rw[show gT (wf i)=true by simp[gT,h0,h1]];right;exact q
def GQ {x:Addr}{n:Bn}(ro:Ro K R)(hk:4<=k)(h0: -1000000000<=i)(h1:i<=1000000000)(z:Sep (pt x (wv (R.cad 11) dx [])::pt dx (.own x)::O) H)(q:∀ H',Sep (sd R x (.set n i)::O) H'->Q wn H'):aa tab R k 20 [v4 x,wl n.nm,wf i] H Q E:=by
 delta dJ;right;refine a9 ro nofun ?_;right;refine dW ro nofun h0 h1 ?_;right;exact q _ (wV (by assumption))
def Gk {x:Addr}{n:Bn}(ro:Ro K R)(hk:4<=k)(h0: -1000000000<=i)(h1:i<=1000000000)(z:Sep (pt x (wv (R.cad 12) dx [])::pt dx (.own x)::O) H)(q:∀ H',Sep (sd R x (.add n i)::O) H'->Q wn H'):aa tab R k 23 [v4 x,wl n.nm,wf i] H Q E:=by
 delta dZ;right;refine a9 ro nofun ?_;right;refine dW ro nofun h0 h1 ?_;right;exact q _ (wV (by assumption))
def G5 {x:Addr}{n m:Bn}(ro:Ro K R)(hk:4<=k)(z:Sep (pt x (wv (R.cad 13) dx [])::pt dx (.own x)::O) H)(q:∀ H',Sep (sd R x (.take n m)::O) H'->Q wn H'):aa tab R k 26 [v4 x,wl n.nm,wl m.nm] H Q E:=by
 delta c8;right;refine a9 ro nofun ?_;right;refine a9 ro nofun ?_;right;exact q _ (wV (by assumption))
def GA {x:Addr}{n:Bn}(ro:Ro K R)(hk:4<=k)(z:Sep (pt x (wv (R.cad 14) dx [])::pt dx (.own x)::O) H)(q:∀ H',Sep (sd R x (.read n)::O) H'->Q wn H'):aa tab R k 29 [v4 x,wl n.nm] H Q E:=by
 delta di;right;refine a9 ro nofun ?_;right;exact q _ (wV (by assumption))
def Ho {x:Addr}{n:Bn}(ro:Ro K R)(hk:4<=k)(z:Sep (pt x (wv (R.cad 15) dx [])::pt dx (.own x)::O) H)(q:∀ H',Sep (sd R x (.write n)::O) H'->Q wn H'):aa tab R k 32 [v4 x,wl n.nm] H Q E:=by
 delta cM;right;refine a9 ro nofun ?_;right;exact q _ (wV (by assumption))
abbrev jd:V->Bool
 | wf i=>decide (0<=i)&&decide (i<=24)
 |_=>false
abbrev Fy:V->Bool
 | wn=>true
 | wf i=>i ==0||i ==1
 |_=>false
def uS {t:String}(ro:Ro K R)(hk:2<=k)(ht:tyName v H=some t)(q:Q (.bl (jd v)) H):aa tab R k 86 [v] H Q E:=by
 delta lr;right;refine aN nofun ht ?_;cases iG ht
 case int i=>
  right;refine aK (λh0=>?_) (λh0=>?_)
  .left;simp only[ro.g_MOST_HOPPED];right;rw[show jd (wf i)=decide (i<=24) by simp[jd,h0]]at q;exact q
  .right;rw[show jd (wf i)=false by simp[jd,h0]]at q;exact q
 all_goals
  right;exact q
def zZ {t:String}(hk:2<=k)(ht:tyName v H=some t)(q:Q (.bl (Fy v)) H):aa tab R k 87 [v] H Q E:=by
 delta tS;right;refine jJ ?_;cases iG ht
 case int i=>
  left;refine aO rfl ?_;right;refine aN (t:="int") nofun rfl ?_;right;refine bc (λh0=>?_) (λh0=>?_)
  .right;rw[show Fy (wf i)=true by simp[Fy,h0]]at q;exact q
  .right;rw[show Fy (wf i)=(i ==1) by simp[Fy,h0]]at q;exact q
 case non=>
  left;refine bj rfl ?_;exact q
 all_goals
  left;refine aO rfl ?_;right;refine aN nofun ht ?_;right;exact q
abbrev oV:Option Int->V
 |none=>wn
 |some i=>wf i
abbrev JF:Option Int->Prop
 |none=>True
 |some i=>i=0\/i=1
abbrev Fw (R:Rt)(d:Addr)(n:Int)(o:Option Int):aj:=bx λdx:Addr=>[pt d (wv (R.cad 25) dx [("many",wf n),("on",oV o)]),pt dx (.own d)]
def JG (s:Sep (pt d (wv (R.cad 25) dx [("many",wf n),("on",oV o)])::pt dx (.own d)::O) H):Sep (Fw R d n o::O) H:=gP dx s
def Gp (s:Sep O H)(p:ae (Fw R d n o) O Δ):∃ dx,H d=some (wv (R.cad 25) dx [("many",wf n),("on",oV o)]):=by
 obtain⟨dx,s⟩:=iS (s.pull p);exact⟨dx,Sep.at s⟩
def Gr:Ob R (Fw R d n o) d 25 ["many","on"]:=by
 rintro H D ⟨dx,D1,D2,_,_,_,⟨_,h⟩,_⟩;exact⟨dx,_,h,rfl⟩
def F6 {x:Addr}(ro:Ro K R)(hk:4<=k)(h0:0<=n)(h1:n<=24)(ho:JF o)(z:Sep (pt x (wv (R.cad 25) dx [])::pt dx (.own x)::O) H)(q:∀ H',Sep (Fw R x n o::O) H'->Q wn H'):aa tab R k 88 [v4 x,wf n,oV o] H Q E:=by
 delta dM;right;refine uS (t:="int") ro nofun rfl ?_;rw[show jd (wf n)=true by simp[jd,h0,h1]];right;obtain⟨t,ht⟩:∃ t,tyName (oV o) H=some t:=by cases o<;>exact⟨_,rfl⟩
 refine zZ nofun ht ?_;rw[show Fy (oV o)=true by cases o with|none=>rfl|some i=>rcases ho with rfl|rfl<;>rfl];right;exact q _ (JG (by assumption))
abbrev EE (n:Int)(o:Option Int)(m:Int):Int:=match o with
 |none=>1+n
 |some i=>if i=m then 1+n else 1
def AA {b:Addr}(ro:Ro K R)(hk:3<=k)(z:Sep O H)(p1:ae (Fw R d n o) O Δ)(p2:ae (ar R b x) O Δ')(q:Q (wf (EE n o x.m)) H):aa tab R k 89 [v4 d,v4 b,v] H Q E:=by
 delta jg;obtain⟨dx,e⟩:=Gp z p1;right;refine bL e rfl rfl rfl ?_;right;refine jJ ?_;cases o with
 |none=>
  left;refine bj rfl ?_;right;refine bL e rfl rfl rfl ?_;right;exact q
 |some i=>
  left;refine aO rfl ?_;right;refine bL e rfl rfl rfl ?_;right;refine ag aW z p2 rfl rfl ?_;left;refine bb (vs':=[_,_]) rfl ?_;obtain⟨h,t,l,w,s,m⟩:=x;refine HQ ro nofun z p2 ?_;right;have q:Q (wf (if i=m then 1+n else 1)) H:=q;refine bc (λh0=>?_) (λh0=>?_)
  .rw[if_pos h0]at q;right;refine bL e rfl rfl rfl ?_;right;exact q
  .rw[if_neg h0]at q;right;exact q
inductive Rw where
 |lg (w:Wd)
 |sp (s:Sp)
 |hop (n:Int) (o:Option Int)
abbrev Rw.tl:Rw->List V
 | .lg w=>[wl w.s]
 | .sp s=>s.tl
 | .hop n o=>[wl "hop",wf n,oV o]
abbrev Rw.ok:Rw->Prop
 | .lg _=>True
 | .sp s=>s.ok
 | .hop n o=>(0<=n/\n<=24)/\JF o
abbrev Rw.cl:Rw->Nat
 | .lg w=>w.cl
 | .sp s=>s.cl
 | .hop _ _=>25
abbrev fR (R:Rt)(d:Addr):Rw->aj
 | .lg w=>dd R d w.cl
 | .sp s=>sd R d s
 | .hop n o=>Fw R d n o
abbrev Rw.fs:Rw->List Str
 | .lg _=>[]
 | .sp s=>s.fs.map (·.1)
 | .hop _ _=>["many","on"]
def BX (r:Rw):Ob R (fR R d r) d r.cl r.fs:=by
 cases r with
 |lg w=>exact Hg
 |sp s=>exact Hr
 |hop n o=>exact Gr
def Cf {r:Rw}(z:Sep O H)(p:ae (fR R d r) O Δ):∃ dx fs,H d=some (wv (R.cad r.cl) dx fs):=by
 obtain⟨D,k,D1,D2,s1,s2,dj,h1,h2⟩:=z.pull p;obtain⟨dx,fs,e,_⟩:=BX r H D1 h1;exact⟨dx,fs,e⟩
inductive eJ where
 |on (r:Int) (x:Bx) (cs:List Int)
 |no (d:Str) (c:Int)
 |nf (b:Bn) (i:Int)
abbrev ofM:Out->eJ
 | .on r x cs=>.on r x cs
 | .no d c=>.no d c
abbrev yF:qG->eJ
 | .on x cs=>.on 1 x cs
 | .no d c=>.no d c
 | .nf b i=>.nf b i
abbrev dz (x:Bx)(cs:List Int)(ws:List Str):Rw->eJ
 | .lg w=>ofM (eI w x cs ws)
 | .sp s=>yF (iM x cs ws s)
 | .hop n o=>.on (EE n o x.m) x cs
def uX {cs:List Int}(ro:Ro K R)(hk:5<=k)(z:Sep O H)(p:ae (yW R a cs ws) O Δ)(q:∀ c H',Sep (yW R c cs ws::O) H'->Q (v4 c) H'):aa tab R k 69 [v4 a] H Q E:=by
 delta eh;have ok:=DX z p;right;rename_i l H1 z1;intro c dx g1 g2 g3;refine si (cs:=[0]) ro nofun (by decide) (by decide) (λi hi=>by rw[mem_singleton.mp hi];decide) (gS z1 g1 g2 g3) .e (λH2 z2=>⟨rfl,?_⟩);obtain⟨_,z3⟩:=vE z2;obtain⟨dx1,c1,d1,z4⟩:=nJ z3;obtain⟨_,z5⟩:=vE (z4.pull (.j2 (.j2 (.t p))));obtain⟨dx2,c2,d2,z6⟩:=nJ z5;clear z1 z2 z3 z4 z5;right;rename_i l3 H3 z7 H4 z8 l5 H5 z9 H6 z10;refine q c H6 ?_;have z11:Sep (pt c (wv (R.cad 23) dx1 [("contents",v4 l3),("permits",v4 l5)])::pt dx1 (.own c)::pt l3 (wp (cs.map wf))::pt l5 (wp (ws.map wl))::pt a (wv (R.cad 23) dx2 [("contents",v4 c2),("permits",v4 d2)])::pt dx2 (.own a)::pt c2 (wp (cs.map wf))::pt d2 (wp (ws.map wl))::Δ) H6:=z10.sub (by ac_nf);have z12:=vC ok (j4 z11);have z13:Sep (pt a (wv (R.cad 23) dx2 [("contents",v4 c2),("permits",v4 d2)])::pt dx2 (.own a)::pt c2 (wp (cs.map wf))::pt d2 (wp (ws.map wl))::yW R c cs ws::Δ) H6:=z12.sub (by ac_nf);exact Sep.push (.t p) (vC ok (j4 z13))
def vg {b:Addr}(ro:Ro K R)(hk:5<=k)(z:Sep O H)(p:ae (ar R b x) O Δ)(q:∀ c H',Sep (ar R c x::O) H'->Q (v4 c) H'):aa tab R k 17 [v4 b] H Q E:=by
 obtain⟨o,z2⟩:=dh (z.pull p);refine uN ro hk z2 (λc H' z3=>q c H' ?_);have z4:=kW o z3;have z5:=kW o (z4.pull .k1);exact Sep.push (.t p) z5
abbrev ue (R:Rt)(m l s b:Addr)(at_:Int)(ds:List V):aj:=bx λdx:Addr=>[pt m (wv (R.cad 22) dx [("deeds",v4 l),("store",v4 s),("boxes",v4 b),("at",wf at_)]),pt dx (.own m),pt l (wp ds)]
def Dz {m s b:Addr}(z:Sep (ue R m l s b at_ ds::O) H):∃ dx,Sep (pt m (wv (R.cad 22) dx [("deeds",v4 l),("store",v4 s),("boxes",v4 b),("at",wf at_)])::pt dx (.own m)::pt l (wp ds)::O) H:=iS z
def By {m s b:Addr}(z:Sep (pt m (wv (R.cad 22) dx [("deeds",v4 l),("store",v4 s),("boxes",v4 b),("at",wf at_)])::pt dx (.own m)::pt l (wp ds)::O) H):Sep (ue R m l s b at_ ds::O) H:=gP dx z
def Cb {m s b:Addr}:Ob R (ue R m l s b at_ ds) m 22 ["deeds","store","boxes","at"]:=by
 rintro H D ⟨dx,D1,D2,_,_,_,⟨_,h⟩,_⟩;exact⟨dx,_,h,rfl⟩
abbrev Dt (R:Rt)(O:List aj)(ds:List V):Prop:=∀ v ∈ ds,∃ a r Δ,v=v4 a/\ae (fR R a r) O Δ
def se (r:Rw):tab.oc.contains r.cl=true/\tab.sub.lookup (r.cl,10)=some true:=by
 cases r with
 |lg w=>cases w<;>exact⟨rfl,rfl⟩
 |sp s=>cases s<;>exact⟨rfl,rfl⟩
 |hop n o=>exact⟨rfl,rfl⟩
def cV (ro:Ro K R)(hk:1<=k)(h0:1<=ds.length)(h1:ds.length<=24)(z:Sep O H)(p:ae (pt l (wp ds)) O Δ)(hd:Dt R O ds)(q:∀ H',Sep O H'->Q wn H'):aa tab R k 53 [v4 l] H Q E:=by
 delta fX;left;refine gf (t:="list") (Hy (z.get p)) rfl ?_;right;refine bR (z.get p) ?_;right;refine aK (λh=>?_) (λh=>absurd nofun h);left;simp only[ro.g_MOST_ROWS];right;refine aK (λh=>?_) (λh=>absurd nofun h);right;refine Dn (z.get p) ?_;refine lZ (xs:=ds) (λj U H=>∃ u v,U=[some (v4 l),u,v]/\Sep O H) ?_ ?_ ?_ ?_
 .exact⟨none,none,rfl,z⟩
 .rintro j U H ⟨u,v,rfl,hs⟩;exact hs.get p
 .rintro j x T U H hx ⟨u,v,rfl,hs⟩ hT;obtain⟨a,r,Δ',rfl,hp⟩:=hd x (db hx);have hs4:=hs.iK (xs:=[wf j,v4 a]) hT;obtain⟨dx,fs,e⟩:=Cf hs4 (.t hp);left;refine⟨T,_,rfl,.inl (aX.of hs4.atT),rfl,?_⟩;generalize upd H T _=H4 at hs4 e⊢;right;refine F9 e (se r).1 (b:=true) (se r).2 ?_;right;exact⟨_,_,rfl,hs4.drop⟩
 .rintro U H ⟨u,v,rfl,hs⟩;exact q _ hs
def kb (hk:2<=k)(h0:0<=at_)(h1:at_<=n)(q:Q wn H):aa tab R k 54 [wf at_,wf n] H Q E:=by
 delta e9;right;refine aN (t:="int") nofun rfl ?_;right;refine aK (λh=>?_) (λh=>absurd h0 h);right;refine aK (λh=>?_) (λh=>absurd h1 h);right;exact q
def uJ {m s b:Addr}{cs:List Int}(ro:Ro K R)(hk:6<=k)(n0:1<=ds.length)(n1:ds.length<=24)(h0:0<=at_)(h1:at_<=ds.length){Δl Δs Δb:List aj}(pl:ae (pt l (wp ds)) O Δl)(ps:ae (yW R s cs ws) O Δs)(pb:ae (ar R b x) O Δb)(hd:Dt R O ds)
  (z:Sep (pt m (wv (R.cad 22) dx [])::pt dx (.own m)::O) H) (q:∀ l2 s2 b2 H',Sep (ue R m l2 s2 b2 at_ ds::yW R s2 cs ws::ar R b2 x::O) H'->Q wn H'):aa tab R k 56 [v4 m,v4 l,v4 s,v4 b,wf at_] H Q E:=by
 delta b6;right;refine cV ro nofun n0 n1 z (.j2 pl) (λv hv=>by
  obtain⟨a,r,Δ',e,hp⟩:=hd v hv;exact⟨a,r,_,e,.t (.t hp)⟩) (λH1 z1=>?_)
 right;refine bR (z1.get (.j2 pl)) ?_;right;refine kb nofun h0 h1 ?_;right;refine eC z1 (z1.get (.j2 pl)) (λl2 H2 z2=>?_);right;rename_i H3 z3;refine ag yc z3 (.j2 (.t ps)) rfl rfl ?_;left;refine uX ro nofun z3 (.j2 (.t ps)) (λs2 H4 z4=>?_);right;rename_i H5 z5;refine ag aW z5 (.j2 (.j2 pb)) rfl rfl ?_;left;refine vg ro nofun z5 (.j2 (.j2 pb)) (λb2 H6 z6=>?_);right;rename_i H7 z7 H8 z8;refine q l2 s2 b2 H8 (By (dx:=dx) ?_);exact z8.sub (by ac_nf)
abbrev eJ.bx (x:Bx):eJ->Bx
 | .on _ x' _=>x'
 |_=>x
abbrev eJ.cs (cs:List Int):eJ->List Int
 | .on _ _ cs'=>cs'
 |_=>cs
abbrev KR (t:Addr):eJ->aj
 | .on r _ _=>tu t [wf r,wn]
 | .no d c=>bx λte:Addr=>[tu t [wn,v4 te],tu te [wl d,wf c]]
 | .nf b _=>bx λte:Addr=>[tu t [wn,v4 te],tu te [wl "fit",wl b.nm]]
abbrev cn (R:Rt)(O:List aj)(ds:List V)(rs:List Rw):Prop:=ds.length=rs.length/\∀ (i:Nat) (r:Rw),rs[i]? =some r->∃ a Δ,ds[i]? =some (v4 a)/\ae (fR R a r) O Δ
variable {rs:List Rw}
def cn.more (h:cn R O ds rs):cn R (A::O) ds rs:=⟨h.1,λi r e=>by
 obtain⟨a,Δ,e2,p⟩:=h.2 i r e;exact⟨a,_,e2,.t p⟩⟩
def cn.all (h:cn R O ds rs):Dt R O ds:=λv hv=>by
 obtain⟨i,hi⟩:=getElem?_of_mem hv;have hl:=(tz.mp hi).1;obtain⟨a,Δ,e2,p⟩:=h.2 i _ (li (by rw[<-h.1];exact hl));rw[hi]at e2;cases e2;exact⟨a,_,Δ,rfl,p⟩
structure Kx where
 w:Str
 at_:Int
 x:Bx
 cs:List Int
abbrev mS (rs:List Rw)(at_:Int)(x:Bx)(cs:List Int)(ws:List Str):Kx:=match rs[at_.toNat]? with
 |none=>⟨"end",at_,x,cs⟩
 |some r=>match dz x cs ws r with
  | .on n x' cs'=>⟨"on",min (at_+n) rs.length,x',cs'⟩
  |_=>⟨"stop",at_,x,cs⟩
section
variable {m l s b:Addr}{at_:Int}{ds:List V}{rs:List Rw}{x:Bx}{cs:List Int}{ws:List Str}
def Ah (hk:1<=k)(z:Sep O H)(p:ae (ue R m l s b at_ ds) O Δ)(q:Q (.bl (decide (at_=ds.length))) H):aa tab R k 57 [v4 m] H Q E:=by
 delta c9;obtain⟨dx,z1⟩:=Dz (z.pull p);right;have e:lX (wf at_) (wf (ds.length:Int))=decide (at_=(ds.length:Int)):=by
  show(at_ ==(ds.length:Int))=_
  by_cases h:at_=(ds.length:Int)
  .rw[decide_eq_true h,beq_iff_eq];exact h
  .rw[decide_eq_false h];simpa using h
 rw[e];exact q
end
def GO {l:Int}:fin l=0\/fin l=1:=by
 unfold fin
 split
 .exact .inr rfl
 .exact .inl rfl
abbrev idx (wd:Wd)(x:Bx):Int:=match wd with
 | .fill=>x.t
 | .shift=>if x.t<=x.h then x.h else x.h+x.l-1
 |_=>x.h
abbrev dir (wd:Wd)(x:Bx):Int:=match wd with
 | .shift=>if x.t<=x.h then 1 else -1
 | .turn=>1
 |_=>x.w
abbrev gone (n:Nat)(w h h':Int):Prop:=h'=h\/(0<=h/\h<n)/\(h'=h+w\/h'=h+1)
def gF {d:Str}{w h:Int}(m:aq ws d h=true):gone ws.length w h (h+w):=.inr ⟨aE m,.inl rfl⟩
def rf {d:Str}{w h:Int}(m:aq ws d h=true):gone ws.length w h (h+1):=.inr ⟨aE m,.inr rfl⟩
abbrev yA (x x':Bx)(n:Nat):Prop:=x'.w=x.w/\(0<=x.l->0<=x'.l)/\(x.ok->n<=60->x'.ok)
def bS {n:Nat}{h' t' l' m':Int}(hh:gone n x.w x.h h')(ht:gone n x.w x.t t')(hl:0<=x.l->0<=l'/\l'<=x.l)(hm:m'=x.m\/m'=0\/m'=1):yA x ⟨h',t',l',x.w,x.s,m'⟩ n:=by
 refine⟨rfl,λz=>(hl z).1,λok hn=>?_⟩;obtain⟨o1,o2,o3,o4,o5,o6⟩:=ok;have b:=hl o3.1;have gg:∀ {h h':Int},gone n x.w h h'-> -1000000000<=h/\h<=1000000000-> -1000000000<=h'/\h'<=1000000000:=λ{h h'} g o=>by
  rcases g with rfl|⟨g,e⟩
  .exact o
  .omega
 exact⟨gg hh o1,gg ht o2,⟨b.1,Int.le_trans b.2 o3.2⟩,o4,o5,hm.elim (λe=>o6.imp (e.trans ·) (e.trans ·)) id⟩
def aF {P:Out->Prop}{c:Prop} [Decidable c] {a b:Out}(h:c->P a)(g:¬ c->P b):P (if c then a else b):=by
 by_cases e:c
 .rw[if_pos e];exact h e
 .rw[if_neg e];exact g e
def FC {l:Int}(e:¬ l=0)(z:0<=l):0<=l+ -1/\l+ -1<=l:=by omega
section
variable {P:Out->Prop}{wd:Wd}{x:Bx}{cs:List Int}{ws:List Str}
def wU {j:Int}{f:List Int->Out}(no:∀ (d:Str) (c:Int),d="look"\/d="put"->P (.no d c)) (h:aq ws "look" i=true->aq ws "put" j=true->P (f (cs.set j.toNat (gt cs i)))):P (hm cs ws i j f):=
 aF (λa=>aF (h a) (λ_=>no _ _ (.inr rfl))) (λ_=>no _ _ (.inl rfl))
def C9 (done:∀ x',yA x x' ws.length->P (.on 1 x' cs)) (no:∀ (d:Str) (c:Int),d="look"\/d="put"->P (.no d c))
  (go:∀ x' cs',yA x x' ws.length->cs'.length=cs.length->(0<=idx wd x/\idx wd x<ws.length)/\idx wd x'=idx wd x+dir wd x/\dir wd x'=dir wd x->P (.on (fin x'.l) x' cs')):P (eI wd x cs ws):=by
 have sm:∀ {m':Int},m'=x.m\/m'=0\/m'=1->yA x ⟨x.h,x.t,x.l,x.w,x.s,m'⟩ ws.length:=λe=>bS (.inl rfl) (.inl rfl) (λz=>⟨z,Int.le_refl _⟩) e
 have lk:∀ {c},P (.no "look" c):=no _ _ (.inl rfl);have pu:∀ {c},P (.no "put" c):=no _ _ (.inr rfl);cases wd
 .exact aF (λ_=>done _ (sm (.inl rfl))) λe=>wU no λa b=>go _ _ (bS (gF a) (gF b) (FC e) (.inl rfl)) (length_set ..) ⟨aE a,rfl,rfl⟩
 .exact aF (λ_=>done _ (sm (.inl rfl))) λe=>aF (λb=>go _ _ (bS (.inl rfl) (gF b) (FC e) (.inl rfl)) (length_set ..) ⟨aE b,rfl,rfl⟩) λ_=>pu
 .exact aF (λ_=>done _ (sm (.inr (.inl rfl)))) λe=>aF (λa=>aF (λ_=>done _ (sm (.inr (.inr rfl)))) λ_=>go _ _ (bS (gF a) (.inl rfl) (FC e) (.inr (.inl rfl))) rfl ⟨aE a,rfl,rfl⟩) λ_=>lk
 .exact aF (λ_=>done _ (sm (.inr (.inr rfl)))) λe=>aF (λa=>aF (λb=>aF (λ_=>go _ _ (bS (gF a) (gF b) (FC e) (.inr (.inr rfl))) rfl ⟨aE a,rfl,rfl⟩) λ_=>done _ (sm (.inr (.inl rfl)))) λ_=>lk) λ_=>lk
 .refine aF (λ_=>done _ (sm (.inl rfl))) λe=>aF (λc=>wU no λa b=>go _ _ (bS (rf a) (rf b) (FC e) (.inl rfl)) (length_set ..) ?_) λc=>wU no λa b=>go _ _ (bS (.inl rfl) (.inl rfl) (FC e) (.inl rfl)) (length_set ..) ?_
  .have g:=aE a;unfold idx dir;dsimp only;rw[if_pos c,if_pos c,if_pos nofun,if_pos nofun];exact⟨g,rfl,rfl⟩
  .have g:=aE a;unfold idx dir;dsimp only;rw[if_neg c,if_neg c];exact⟨g,by omega,rfl⟩
 .exact aF (λ_=>done _ (sm (.inl rfl))) λe=>aF (λc=>done _ (bS (.inl rfl) (.inl rfl) (λz=>⟨Int.le_refl _,z⟩) (.inl rfl))) λc=>
   aF (λa=>aF (λ_=>aF (λ_=>aF (λ_=>go _ _ (bS (rf a) (.inl rfl) (λz=>by omega) (.inl rfl)) ((length_set ..).trans (length_set ..)) ⟨aE a,rfl,rfl⟩) λ_=>pu) λ_=>pu) λ_=>lk) λ_=>lk
end
variable {wd:Wd}{x':Bx}
def mX {cs:List Int}(h:eI wd x cs ws=.on r x' cs'):
  yA x x' ws.length/\cs'.length=cs.length/\(r=0\/r=1)/\(r=0->(0<=idx wd x/\idx wd x<ws.length)/\idx wd x'=idx wd x+dir wd x/\dir wd x'=dir wd x):=by
 revert h
 refine C9 (P:=λo=>o=.on r x' cs'->_) (λy w e=>?_) (λ_ _ _ e=>by cases e) (λy c w l g e=>?_)
 .cases e;exact⟨w,rfl,.inr rfl,λz=>by cases z⟩
 .cases e;exact⟨w,l,GO,λ_=>g⟩
def xX {cs:List Int}(h:eI wd x cs ws=.on r x' cs'):
  (r=0\/r=1)/\x'.w=x.w/\(r=0->0<=idx wd x/\idx wd x<ws.length/\idx wd x'=idx wd x+dir wd x/\dir wd x'=dir wd x):=
 have ⟨w,_,r,g⟩:=mX h
 ⟨r,w.1,λz=>⟨(g z).1.1,(g z).1.2,(g z).2⟩⟩
def zT {cs:List Int}{r:Rw}(ok:r.ok)(h:dz x cs ws r=.on n x' cs'):0<=n:=by
 cases r with
 |lg w=>
  have h:ofM (eI w x cs ws)=.on n x' cs':=h;cases e:eI w x cs ws with
  |no d c=>rw[e]at h;cases h
  |on r y ys=>
   rw[e]at h;cases h;rcases(xX e).1 with rfl|rfl<;>decide
 |hop m o=>
  cases h;have:=ok.1;cases o with
  |none=>show 0<=1+m;omega
  |some i=>
   show 0<=(if i=x.m then 1+m else 1)
   split<;>omega
 |sp s=>
  have h:yF (iM x cs ws s)=.on n x' cs':=h;cases e:iM x cs ws s with
  |on y ys=>rw[e]at h;cases h;decide
  |no d c=>rw[e]at h;cases h
  |nf b i=>rw[e]at h;cases h
def GX {cs:List Int}(h0:0<=at_)(h1:at_<=rs.length)(hn:∀ r ∈ rs,Rw.ok r):0<=(mS rs at_ x cs ws).at_/\(mS rs at_ x cs ws).at_<=rs.length/\((mS rs at_ x cs ws).w="on"\/((mS rs at_ x cs ws).w="end"\/(mS rs at_ x cs ws).w="stop")/\(mS rs at_ x cs ws).at_=at_/\(mS rs at_ x cs ws).x=x/\(mS rs at_ x cs ws).cs=cs):=by
 unfold mS;cases e:rs[at_.toNat]? with
 |none=>exact⟨h0,h1,.inr ⟨.inl rfl,rfl,rfl,rfl⟩⟩
 |some r=>
  have ok:=hn r (db e);dsimp only;cases ho:dz x cs ws r with
  |no d c=>exact⟨h0,h1,.inr ⟨.inr rfl,rfl,rfl,rfl⟩⟩
  |nf b i=>exact⟨h0,h1,.inr ⟨.inr rfl,rfl,rfl,rfl⟩⟩
  |on n x' cs'=>
   have hn0:0<=n:=zT ok ho;refine⟨?_,?_,.inl rfl⟩
   .show 0<=min (at_+n) (rs.length:Int)
    omega
   .show min (at_+n) (rs.length:Int)<=rs.length
    omega
def yn {cs:List Int}(hx:0<=x.l)(h:eI wd x cs ws=.on r x' cs'):0<=x'.l/\cs'.length=cs.length:=
 ⟨(mX h).1.2.1 hx,(mX h).2.1⟩
def EX:¬ (Str.ofString "end")=Str.ofString "on":=by decide+kernel
def tU:¬ (Str.ofString "stop")=Str.ofString "on":=by decide+kernel
abbrev yl (x:Bx):Prop:=x.w=1\/x.w= -1
def GI {b:Bn}(h:rh b i=true)(o:yl x):yl (x.p i b):=by
 cases b<;>first|exact o|skip
 have h:(i ==1||i == -1)=true:=h;have h:i=1\/i= -1:=by simpa using h
 exact h
def tj {cs:List Int}{b:Bn}(o:yl x)(h:dR x cs b i=.on x' cs'):yl x':=by
 unfold dR at h
 split at h
 .rename_i e;cases h;exact GI e o
 .cases h
def Df {cs:List Int}{s:Sp}(o:yl x)(h:iM x cs ws s=.on x' cs'):yl x':=by
 cases s with
 |set b i=>exact tj o h
 |add b i=>exact tj o h
 |take b c=>exact tj o h
 |read b=>
  have h:(if aq ws "look" x.h=true then dR x cs b (gt cs x.h) else .no "look" x.h)=.on x' cs':=h
  split at h
  .exact tj o h
  .cases h
 |write b=>
  have h:(if gX (wf (x.g b))=true then(if aq ws "put" x.t=true then qG.on x (cs.set x.t.toNat (x.g b)) else .no "put" x.t) else .nf b (x.g b))=.on x' cs':=h
  split at h
  .split at h
   .cases h;exact o
   .cases h
  .cases h
abbrev JO (N:Nat)(x:Bx):Rw->Nat
 | .lg w=>min 61 (if dir w x=1 then(N:Int)-idx w x else idx w x+1).toNat
 |_=>0
def DQ {r:Rw}:JO N x r<=61:=by
 cases r with
 |lg w=>exact Nat.min_le_left _ _
 |_=>exact Nat.zero_le _
abbrev tD (rs:List Rw)(N:Nat)(at_:Int)(x:Bx):Nat:=match rs[at_.toNat]? with
 |none=>0
 |some r=>(rs.length-at_.toNat)*62+JO N x r
def wg:tD rs N at_ x<=(rs.length-at_.toNat)*62+61:=by
 unfold tD
 split
 .exact Nat.zero_le _
 .have:=DQ (N:=N) (x:=x) (r:=‹Rw›)
  omega
def As {w:Wd}(o:yl x):dir w x=1\/dir w x= -1:=by
 cases w<;>first|exact o|skip
 .show(if x.t<=x.h then(1:Int) else -1)=1\/(if x.t<=x.h then(1:Int) else -1)= -1
  split<;>simp
 .exact .inl rfl
def wA {cs:List Int}(o:yl x)(h0:0<=at_)(hok:∀ r ∈ rs,Rw.ok r) (hN:ws.length<=60) (h:(mS rs at_ x cs ws).w="on"):tD rs ws.length (mS rs at_ x cs ws).at_ (mS rs at_ x cs ws).x<tD rs ws.length at_ x/\yl (mS rs at_ x cs ws).x:=by
 unfold mS at h⊢;cases e:rs[at_.toNat]? with
 |none=>rw[e]at h;exact absurd h EX
 |some r=>
  rw[e]at h;dsimp only at h⊢;have hlt:=(tz.mp e).1;have far:∀ {n:Int}{x':Bx},1<=n->tD rs ws.length (min (at_+n) (rs.length:Int)) x'<tD rs ws.length at_ x:=λ{n x'} hn=>by
   have h1:=wg (rs:=rs) (N:=ws.length) (at_:=min (at_+n) (rs.length:Int)) (x:=x');have h2:(rs.length-at_.toNat)*62<=tD rs ws.length at_ x:=by unfold tD;rw[e];dsimp only;omega
   by_cases g:(min (at_+n) (rs.length:Int)).toNat<rs.length
   .omega
   .have:tD rs ws.length (min (at_+n) (rs.length:Int)) x'=0:=by unfold tD;rw[getElem?_eq_none nofun]
    omega
  cases ho:dz x cs ws r with
  |no d c=>rw[ho]at h;exact absurd h tU
  |nf b i=>rw[ho]at h;exact absurd h tU
  |on n x' cs'=>
   dsimp only;cases r with
   |sp s=>
    have ho:yF (iM x cs ws s)=.on n x' cs':=ho;cases e2:iM x cs ws s with
    |on y ys=>rw[e2]at ho;cases ho;exact⟨far (by decide),Df o e2⟩
    |no d c=>rw[e2]at ho;cases ho
    |nf b i=>rw[e2]at ho;cases ho
   |hop m oo=>
    have ok:=hok _ (db e);have:1<=EE m oo x.m:=by
     have h1:=ok.1.1;cases oo with
     |none=>show 1<=1+m;omega
     |some i=>show 1<=(if i=x.m then 1+m else 1);split<;>omega
    cases ho;exact⟨far this,o⟩
   |lg w=>
    have ho:ofM (eI w x cs ws)=.on n x' cs':=ho;cases e2:eI w x cs ws with
    |no d c=>rw[e2]at ho;cases ho
    |on r2 y ys=>
     rw[e2]at ho;cases ho;obtain⟨g1,g2,g3⟩:=xX e2;have ow:yl x':=by unfold yl;rw[g2];exact o
     rcases g1 with rfl|rfl
     .obtain⟨i0,i1,i2,i3⟩:=g3 rfl;refine⟨?_,ow⟩;rw[show min (at_+0) (rs.length:Int)=at_ by omega];unfold tD;rw[e];show _+min 61 (if dir w x'=1 then(ws.length:Int)-idx w x' else idx w x'+1).toNat<_+min 61 (if dir w x=1 then(ws.length:Int)-idx w x else idx w x+1).toNat;rw[i3,i2];rcases As (w:=w) o with d|d
      .rw[d,if_pos rfl,if_pos rfl];omega
      .rw[d,if_neg (by decide),if_neg (by decide)];omega
     .exact⟨far (by decide),ow⟩
def EG (h0:0<=r)(h1:r<3):∃ o:Option Int,kU [wn,wf 0,wf 1] r=some (oV o)/\JF o:=by
 rcases(by omega:r=0\/r=1\/r=2) with rfl|rfl|rfl
 .exact⟨none,rfl,True.intro⟩
 .exact⟨some 0,rfl,.inl rfl⟩
 .exact⟨some 1,rfl,.inr rfl⟩
abbrev sR (v:V):Prop:=∃ b:Bn,v=wl b.nm
def ak {A:aj}:∀ {L O Δ:List aj},ae A O Δ->ae A (L++O) (L++Δ)
 | [],_,_,h=>h
 |B::L,_,_,h=>.t (ak h)
def b9 {α:Type}{f:α->aj}{x:α}:∀ {l:List α},x ∈ l->∃ Δ,∀ O,ae (f x) (l.map f++O) (Δ++O)
 |y::l,h=>by
  rcases lw.mp h with rfl|h
  .exact⟨l.map f,λO=>.e⟩
  .obtain⟨Δ,hp⟩:=b9 (f:=f) h;exact⟨f y::Δ,λO=>.t (hp O)⟩
abbrev vq (j:Int):List V:=if j<0 then[wl "cell",wf (-1-j)] else[wl "number",wf j]
abbrev vi (v:V)(j:Int)(H:Hp):Prop:=∃ t,v=v4 t/\H t=some (wr (vq j))
abbrev cw (vs:List V)(cs:List Int):aj:=⟨λH _=>vs.length=cs.length/\∀ (i:Nat) v j,vs[i]? =some v->cs[i]? =some j->vi v j H,λH H' D h _ g=>⟨h.1,λi v j e1 e2=>let⟨t,e,ht⟩:=h.2 i v j e1 e2;⟨t,e,g.tup ht⟩⟩,λH D D' h _=>h⟩
def cw.of {cs:List Int}(s:Sep (cw vs cs::O) H):vs.length=cs.length/\∀ (i:Nat) v j,vs[i]? =some v->cs[i]? =some j->vi v j H:=let⟨D,k,D1,D2,s1,s2,dj,h1,h2⟩:=s;h1
def cw.mk {cs:List Int}(h:vs.length=cs.length)(h2:∀ (i:Nat) v j,vs[i]? =some v->cs[i]? =some j->vi v j H) (s:Sep O H):Sep (cw vs cs::O) H:=s.free λ_=>⟨h,h2⟩
abbrev B7 (v:V)(j:Int):aj:=⟨λH _=>vi v j H,λH H' D h _ g=>let⟨t,e,ht⟩:=h;⟨t,e,g.tup ht⟩,λH D D' h _=>h⟩
def B7.of {j:Int}(s:Sep (B7 v j::O) H):vi v j H:=let⟨D,k,D1,D2,s1,s2,dj,h1,h2⟩:=s;h1
def B7.mk {j:Int}(h:vi v j H)(s:Sep O H):Sep (B7 v j::O) H:=s.free λ_=>h
def cw.set {cs:List Int}{i:Nat}{j:Int}(s:Sep (cw vs cs::O) H)(h:vi v j H):Sep (cw (vs.set i v) (cs.set i j)::O) H:=by
 obtain⟨h1,h2⟩:=cw.of s;refine cw.mk (by rw[length_set,length_set];exact h1) (λn w c e1 e2=>?_) s.drop;rw[List.getElem?_set]at e1 e2
 by_cases e:i=n
 .rw[if_pos e]at e1 e2
  split at e1
  .split at e2
   .cases e1;cases e2;exact h
   .cases e2
  .cases e1
 .rw[if_neg e]at e1 e2;exact h2 n w c e1 e2
def cw.snoc {cs:List Int}{j:Int}(s:Sep (cw vs cs::O) H)(h:vi v j H):Sep (cw (vs++[v]) (cs++[j])::O) H:=by
 obtain⟨h1,h2⟩:=cw.of s;refine cw.mk (by rw[cr,cr,h1];rfl) (λn w c e1 e2=>?_) s.drop
 by_cases e:n<vs.length
 .rw[getElem?_append_left e]at e1;rw[getElem?_append_left nofun]at e2;exact h2 n w c e1 e2
 .rw[getElem?_append_right nofun]at e1;rw[getElem?_append_right nofun,<-h1]at e2;cases g:n-vs.length with
  |zero=>rw[g]at e1 e2;cases e1;cases e2;exact h
  |succ=>rw[g]at e1;cases e1
abbrev Eh (cs:List Int)(ws:List Str):Prop:=cs.length=ws.length/\1<=cs.length/\cs.length<=60/\ws=sK ws.length (Str.ofString "open")
abbrev bM (R:Rt)(a:Addr)(cs:List Int)(ws:List Str):aj:=bx λp:Addr×Addr×List V=>[pt a (wv (R.cad 24) p.1 [("sources",v4 p.2.1)]),pt p.1 (.own a),pt p.2.1 (wp p.2.2),cw p.2.2 cs,pu (p.2.2.length=cs.length/\Eh cs ws)]
section
variable {a:Addr}{cs cs':List Int}{ws:List Str}{i:Int}
def pv (z:Sep (bM R a cs ws::O) H):∃ dx l vs,(vs.length=cs.length/\Eh cs ws)/\Sep (pt a (wv (R.cad 24) dx [("sources",v4 l)])::pt dx (.own a)::pt l (wp vs)::cw vs cs::O) H:=by
 obtain⟨⟨dx,l,vs⟩,z⟩:=iS z;have z:Sep (pt a (wv (R.cad 24) dx [("sources",v4 l)])::pt dx (.own a)::pt l (wp vs)::cw vs cs::pu (vs.length=cs.length/\Eh cs ws)::O) H:=z;exact⟨dx,l,vs,(z.drop.drop.drop.drop).pure,z.sub (by ac_nf)⟩
def B1 (h:vs.length=cs.length)(o:Eh cs ws)(z:Sep (pt a (wv (R.cad 24) dx [("sources",v4 l)])::pt dx (.own a)::pt l (wp vs)::cw vs cs::O) H):Sep (bM R a cs ws::O) H:=by
 refine gP (dx,l,vs) ?_;have z2:Sep (pt a (wv (R.cad 24) dx [("sources",v4 l)])::pt dx (.own a)::pt l (wp vs)::cw vs cs::pu (vs.length=cs.length/\Eh cs ws)::O) H:=Sep.push (.t .k3) (Sep.yo ⟨h,o⟩ z);exact z2
def mG (z:Sep O H)(p:ae (bM R a cs ws) O Δ):Eh cs ws:=by
 obtain⟨_,_,_,h,_⟩:=pv (z.pull p);exact h.2
def bE:Ob R (bM R a cs ws) a 24 ["sources"]:=by
 rintro H D ⟨⟨dx,l,vs⟩,D1,D2,_,_,_,⟨_,h⟩,_⟩;exact⟨dx,_,h,rfl⟩
def G2 {d:Str}(h:ws=sK ws.length (Str.ofString "open")):aq ws d i=(decide (0<=i)&&decide (i<ws.length)):=by
 unfold aq
 by_cases h0:0<=i
 .by_cases h1:i<ws.length
  .rw[decide_eq_true h0,decide_eq_true h1,Bool.true_and,Bool.true_and,h,getElem?_replicate,if_pos nofun];show(if Str.ofString "open"=Str.ofString "look" then d =="look" else Str.ofString "open" ==Str.ofString "open")=true;rw[if_neg (by decide+kernel)];simp
  .rw[decide_eq_false h1];simp
 .rw[decide_eq_false h0];simp
def qq {d:Str}(hk:1<=k)(z:Sep O H)(p:ae (bM R a cs ws) O Δ)(q:Q (.bl (aq ws d i)) H):aa tab R k 73 [v4 a,wl d,wf i] H Q E:=by
 obtain⟨dx,l,vs,⟨h1,h2,h3,h4,h5⟩,z1⟩:=pv (z.pull p);delta eX;rw[G2 h5]at q;right;refine aK (λe=>?_) (λe=>?_)
 .rw[decide_eq_true e,Bool.true_and]at q;right;rw[show(vs.length:Int)=ws.length by omega];exact q
 .rw[decide_eq_false e]at q;right;exact q
def lV (hk:3<=k)(z:Sep O H)(p:ae (bM R a cs ws) O Δ)(q0:aq ws "look" i=true->∀ v,vi v (gt cs i) H->Q v H)
  (q1:aq ws "look" i=false->∀ e H',Sep (i8 (R.cad 2) [("deed",wl "look"),("cell",wf i)] e false::O) H'->E e H'):aa tab R k 74 [v4 a,wf i] H Q E:=by
 obtain⟨dx,l,vs,⟨h1,h2,h3,h4,h5⟩,z1⟩:=pv (z.pull p);delta d7;right;refine ag bE z p rfl rfl ?_;left;refine qq nofun z p ?_;right;refine gH (λhm=>?_) (λhm=>?_)
 .have hin:=aE hm;have e:vs[i.toNat]? =some (vs[i.toNat]'nofun):=li _;right;refine aP (by grind) (cR hin.1 e) ?_;exact q0 hm _ ((cw.of (z1.pull .k3)).2 _ _ _ e (by unfold gt;rw[li nofun];rfl))
 .right;intro x hx;refine dY nofun (z.new hx) (λd H hs=>?_);right;exact dU hs (by ac_rfl) rfl (λH hs=>q1 hm x H (ir hs))
def Ap {d:Str}{G:Gx}(hk:1<=k)(z:Sep O H)(q:∀ e H',Sep (i8 (R.cad 2) [("deed",wl d),("cell",wf i)] e false::O) H'->E e H'):∀ e,H e=none->aa tab R k 1 [v4 e,wl d,wf i] (upd H e (.exc (R.cad 2) none [] true)) (λv H2=>v=wn/\∃ a i dx fs,v4 e=v4 a/\H2 a=some (.exc (R.cad i) dx fs true)/\tab.xc.contains i=true/\E a (upd H2 a (.exc (R.cad i) dx fs false))) E:=λe he=>by
 refine dY nofun (z.new he) (λd H3 hs3=>⟨rfl,?_⟩);exact dU (G:=⟨tab,R,aa tab R k,.calm⟩) hs3 .e rfl (λH4 hs4=>q e H4 (ir hs4))
abbrev IZ (v:V)(j:Int)(H:Hp):Prop:=vi v j H\/(v=wf j/\0<=j)
def jC {j:Int}(hk:3<=k)(z:Sep O H)(r:aI (bM R a cs ws) (bM R a (cs.set i.toNat j) ws) O Γ')(hv:IZ v j H)(q0:aq ws "put" i=true->∀ H',Sep Γ' H'->Q wn H')
  (q1:aq ws "put" i=false->∀ e H',Sep (i8 (R.cad 2) [("deed",wl "put"),("cell",wf i)] e false::O) H'->E e H'):aa tab R k 75 [v4 a,wf i,v] H Q E:=by
 obtain⟨Δ,p1,p2⟩:=r.bz;obtain⟨dx,l,vs,⟨h1,h2,h3,h4,h5⟩,z1⟩:=pv (z.pull p1);delta fe;right;refine ag bE z p1 rfl rfl ?_;left;refine qq nofun z p1 ?_;right;refine gH (λhm=>?_) (λhm=>?_)
 .have hin:=aE hm;have fin:∀ {v:V}{H:Hp},vi v j H->Sep (pt a (wv (R.cad 24) dx [("sources",v4 l)])::pt dx (.own a)::pt l (wp vs)::cw vs cs::Δ) H->nW ⟨tab,R,aa tab R (k-1),.calm⟩ "sources" (v4 a) H (λov H2=>mh ov (wf i) v H2 (λH4=>Q wn H4)):=λ{v H} ht zz=>by
   refine bL zz.at rfl rfl rfl ?_;refine Cr (i:=i) (B7.mk ht zz) .k3 (Fm hin.1 nofun) rfl (λH4 z4=>?_);refine q0 hm H4 (Sep.push p2 (B1 (dx:=dx) (l:=l) (vs:=vs.set i.toNat v) (by rw[length_set,length_set];exact h1) ⟨by rw[length_set];omega,by rw[length_set];omega,by rw[length_set];omega,h5⟩ ?_));have e1:=B7.of z4;have z5:=cw.set (i:=i.toNat) (z4.pull (.t .k3)) e1;exact z5.sub (by ac_nf)
  rcases hv with ht|⟨rfl,hj⟩
  .obtain⟨t,rfl,ht2⟩:=ht;left;refine gf (IW ht2) (b:=true) rfl ?_;left;refine bj rfl ?_;exact fin ⟨t,rfl,ht2⟩ z1
  .left;refine gf (t:="int") rfl (b:=false) rfl ?_;left;refine aO rfl ?_;left;refine bq z1 (pc rfl) (λT H2 z2=>?_);exact fin ⟨T,rfl,by rw[vq,if_neg nofun];exact z2.at⟩ z2.drop
 .right;exact Ap (G:=⟨tab,R,aa tab R (k-1),.calm⟩) nofun z (q1 hm)
end
section
variable {b a:Addr}{h t l w s m i j by':Int}{cs:List Int}{ws:List Str}
def rl (hk:4<=k)(z:Sep O H)(r:aI (bM R a cs ws) (bM R a (cs.set j.toNat (gt cs i)) ws) O Γ')(q0:aq ws "look" i=true->aq ws "put" j=true->∀ H',Sep Γ' H'->Q wn H')
  (q1:aq ws "look" i=false->∀ e H',Sep (i8 (R.cad 2) [("deed",wl "look"),("cell",wf i)] e false::O) H'->E e H')
  (q2:aq ws "look" i=true->aq ws "put" j=false->∀ e H',Sep (i8 (R.cad 2) [("deed",wl "put"),("cell",wf j)] e false::O) H'->E e H'):aa tab R k 39 [v4 a,wf i,wf j] H Q E:=by
 obtain⟨Δ,p1,p2⟩:=r.bz;delta wY;right;refine ag bE z p1 rfl rfl ?_;left;refine lV nofun z p1 (λhm v tv=>?_) q1;right;refine ag bE z p1 rfl rfl ?_;left;refine jC (j:=gt cs i) nofun z r (.inl tv) (λhp H1 z1=>?_) (q2 hm);right;exact q0 hm hp H1 z1
def kR (hk:3<=k)(z:Sep O H)(p:ae (bM R a cs ws) O Δ)(q0:aq ws "put" i=true->Q wn H)
  (q1:aq ws "put" i=false->∀ e H',Sep (i8 (R.cad 2) [("deed",wl "put"),("cell",wf i)] e false::O) H'->E e H'):aa tab R k 38 [v4 a,wf i] H Q E:=by
 delta lz;right;refine ag bE z p rfl rfl ?_;left;refine qq nofun z p ?_;right;refine gH (λhm=>?_) (λhm=>?_)
 .right;exact q0 hm
 .right;intro x hx;refine dY nofun (z.new hx) (λd H hs=>?_);right;exact dU hs (by ac_rfl) rfl (λH hs=>q1 hm x H (ir hs))
def rp {Γf:Int->Int->List aj}(hk:4<=k)(z:Sep O H)(r:∀ v w:Int,∃ Γ1,aI (bM R a cs ws) (bM R a (cs.set i.toNat v) ws) O Γ1/\aI (bM R a (cs.set i.toNat v) ws) (bM R a ((cs.set i.toNat v).set j.toNat w) ws) Γ1 (Γf v w)) (q0:aq ws "look" i=true->aq ws "look" j=true->aq ws "put" i=true->aq ws "put" j=true->∀ H',Sep (Γf (gt cs j) (gt cs i)) H'->Q wn H')
  (q1:aq ws "look" i=false->∀ e H',Sep (i8 (R.cad 2) [("deed",wl "look"),("cell",wf i)] e false::O) H'->E e H')
  (q2:aq ws "look" i=true->aq ws "look" j=false->∀ e H',Sep (i8 (R.cad 2) [("deed",wl "look"),("cell",wf j)] e false::O) H'->E e H')
  (q3:aq ws "look" i=true->aq ws "look" j=true->aq ws "put" i=false->∀ e H',Sep (i8 (R.cad 2) [("deed",wl "put"),("cell",wf i)] e false::O) H'->E e H')
  (q4:aq ws "look" i=true->aq ws "look" j=true->aq ws "put" i=true->aq ws "put" j=false->∀ e H',Sep (i8 (R.cad 2) [("deed",wl "put"),("cell",wf j)] e false::O) H'->E e H'):aa tab R k 40 [v4 a,wf i,wf j] H Q E:=by
 obtain⟨Γ1,r1,r2⟩:=r (gt cs j) (gt cs i);obtain⟨Δ,p1,p2⟩:=r1.bz;obtain⟨Δ2,p3,p4⟩:=r2.bz;delta jH;right;refine ag bE z p1 rfl rfl ?_;left;refine lV nofun z p1 (λh1 v1 tv1=>?_) q1;right;refine ag bE z p1 rfl rfl ?_;left;refine lV nofun z p1 (λh2 v2 tv2=>?_) (q2 h1);right;refine kR nofun z p1 (λh3=>?_) (q3 h1 h2);right;refine kR nofun z p1 (λh4=>?_) (q4 h1 h2 h3);right;refine ag bE z p1 rfl rfl ?_;left;refine jC (j:=gt cs j) nofun (B7.mk tv1 z) (.t r1) (.inl tv2) (λhp H1 z1=>?_) (λhp=>absurd (h3.symm.trans hp) (by decide));have tv3:=B7.of z1;have z1:=z1.drop;right;refine ag bE z1 p3 rfl rfl ?_;left;refine jC (j:=gt cs i) nofun z1 r2 (.inl tv3) (λhp H2 z2=>?_) (λhp=>absurd (h4.symm.trans hp) (by decide));right;exact q0 h1 h2 h3 h4 H2 z2
abbrev pJ (R:Rt)(b a:Addr)(x:Bx)(cs:List Int)(ws:List Str)(O:List aj)(Q:VK)(E:XK):Out->Prop
 | .on r x' cs'=>∀ H',Sep (ar R b x'::bM R a cs' ws::O) H'->Q (wf r) H'
 | .no d c=>∀ e H',Sep (i8 (R.cad 2) [("deed",wl d),("cell",wf c)] e false::ar R b x::bM R a cs ws::O) H'->E e H'
def yB (ro:Ro K R)(hk:7<=k)(z:Sep (ar R b x::bM R a cs ws::O) H)(q:pJ R b a x cs ws O Q E (fu x cs ws)):aa tab R k 49 [v,v4 b,v4 a] H Q E:=by
 have ok:=kN z .e;have sk:=mG z .k1;obtain⟨h,t,l,w,s,m⟩:=x;obtain⟨⟨o1,o2⟩,⟨o3,o4⟩,⟨o5,o6⟩,o7⟩:=ok;dsimp only at o1 o2 o3 o4 o5 o6;obtain⟨s1,s2,s3,s4⟩:=sk;delta gA;walk_at "ws";refine bc (λe=>?_) (λe=>?_)
 .walk_at "ws";rw[fu,if_pos e]at q;exact q H z
 rw[fu,if_neg e]at q;walk_at "ws";refine aK (λe2=>?_) (λe2=>?_)
 .rw[if_pos e2]at q;walk_at "ws";refine rl nofun z .k1 (λh1 h2 H1 z1=>?_) (λh1=>?_) (λh1 h2=>?_)
  .have g1:=aE h1;have g2:=aE h2;rw[hm,if_pos h1,if_pos h2]at q;walk_at "ws";refine Fo ro nofun z1 .e nofun (λH2 z2=>?_);walk_at "ws";refine F3 ro nofun z2 .e nofun (λH3 z3=>?_);walk_at "ws";exact uO ro nofun z3 .e nofun (λH4 z4=>q H4 z4)
  .rw[hm,if_neg (by rw[h1];decide)]at q;exact q
  .rw[hm,if_pos h1,if_neg (by rw[h2];decide)]at q;exact q
 .rw[if_neg e2]at q;walk_at "ws";refine rl nofun z .k1 (λh1 h2 H1 z1=>?_) (λh1=>?_) (λh1 h2=>?_)
  .rw[hm,if_pos h1,if_pos h2]at q;walk_at "ws";exact uO ro nofun z1 .e nofun (λH4 z4=>q H4 z4)
  .rw[hm,if_neg (by rw[h1];decide)]at q;exact q
  .rw[hm,if_pos h1,if_neg (by rw[h2];decide)]at q;exact q
def Ba (ro:Ro K R)(hk:7<=k)(z:Sep (ar R b x::bM R a cs ws::O) H)(q:pJ R b a x cs ws O Q E (jr x cs ws)):aa tab R k 51 [v,v4 b,v4 a] H Q E:=by
 have ok:=kN z .e;have sk:=mG z .k1;obtain⟨h,t,l,w,s,m⟩:=x;obtain⟨⟨o1,o2⟩,⟨o3,o4⟩,⟨o5,o6⟩,o7⟩:=ok;dsimp only at o1 o2 o3 o4 o5 o6;obtain⟨s1,s2,s3,s4⟩:=sk;delta ie;walk_at "ws";refine bc (λe=>?_) (λe=>?_)
 .walk_at "ws";rw[jr,if_pos e]at q;exact q H z
 rw[jr,if_neg e]at q;walk_at "ws";refine bc (λe2=>?_) (λe2=>?_)
 .rw[if_pos e2]at q;walk_at "ws";refine uO ro nofun z .e nofun (λH4 z4=>?_);subst e2;exact q H4 z4
 .rw[if_neg e2]at q;walk_at "ws";refine rp (Γf:=λv w'=>ar R b ⟨h,t,l,w,s,m⟩::bM R a ((cs.set h.toNat v).set (h+l-1).toNat w') ws::O) nofun z (λv w=>⟨_,.t .e,.t .e⟩) (λh1 h2 h3 h4 H1 z1=>?_) (λh1=>?_) (λh1 h2=>?_) (λh1 h2 h3=>?_) (λh1 h2 h3 h4=>?_)
  .have g1:=aE h1;rw[xm,if_pos h1,if_pos h2,if_pos h3,if_pos h4]at q;walk_at "ws";refine Fo ro nofun z1 .e nofun (λH2 z2=>?_);walk_at "ws";exact uO ro nofun z2 .e nofun (λH4 z4=>q H4 z4)
  .rw[xm,if_neg (by rw[h1];decide)]at q;exact q
  .rw[xm,if_pos h1,if_neg (by rw[h2];decide)]at q;exact q
  .rw[xm,if_pos h1,if_pos h2,if_neg (by rw[h3];decide)]at q;exact q
  .rw[xm,if_pos h1,if_pos h2,if_pos h3,if_neg (by rw[h4];decide)]at q;exact q
def Bz (ro:Ro K R)(hk:8<=k)(z:Sep (ar R b x::bM R a cs ws::O) H)(q:pJ R b a x cs ws O Q E (ju x cs ws)):aa tab R k 41 [v,v4 b,v4 a] H Q E:=by
 have ok:=kN z .e;have sk:=mG z .k1;obtain⟨h,t,l,w,s,m⟩:=x;obtain⟨⟨o1,o2⟩,⟨o3,o4⟩,⟨o5,o6⟩,o7,o8⟩:=ok;dsimp only at o1 o2 o3 o4 o5 o6 o7;obtain⟨s1,s2,s3,s4⟩:=sk;delta hV;walk_at "ws";refine bc (λe=>?_) (λe=>?_)
 .walk_at "ws";rw[ju,if_pos e]at q;exact q H z
 rw[ju,if_neg e]at q;walk_at "ws";refine rl nofun z .k1 (λh1 h2 H1 z1=>?_) (λh1=>?_) (λh1 h2=>?_)
 .have g1:=aE h1;have g2:=aE h2;rw[hm,if_pos h1,if_pos h2]at q;walk_at "ws";refine IG ro nofun z1 .e nofun (λH2 z2=>?_);walk_at "ws";refine Gb ro nofun z2 .e nofun (λH3 z3=>?_);walk_at "ws";exact uO ro nofun z3 .e nofun (λH4 z4=>q H4 z4)
 .rw[hm,if_neg (nt h1)]at q;exact q
 .rw[hm,if_pos h1,if_neg (nt h2)]at q;exact q
def zG (ro:Ro K R)(hk:8<=k)(z:Sep (ar R b x::bM R a cs ws::O) H)(q:pJ R b a x cs ws O Q E (j5 x cs ws)):aa tab R k 43 [v,v4 b,v4 a] H Q E:=by
 have ok:=kN z .e;have sk:=mG z .k1;obtain⟨h,t,l,w,s,m⟩:=x;obtain⟨⟨o1,o2⟩,⟨o3,o4⟩,⟨o5,o6⟩,o7,o8,o9⟩:=ok;dsimp only at o1 o2 o3 o4 o5 o6 o7 o8;obtain⟨s1,s2,s3,s4⟩:=sk;delta hJ;walk_at "ws";refine bc (λe=>?_) (λe=>?_)
 .walk_at "ws";rw[j5,if_pos e]at q;exact q H z
 rw[j5,if_neg e]at q;walk_at "ws";refine ag bE z .k1 rfl rfl ?_;walk_at "ws";refine jC (j:=s) nofun z .k1 (.inr ⟨rfl,by have:=o8.1;omega⟩) (λh2 H1 z1=>?_) (λh2=>?_)
 .have g2:=aE h2;rw[if_pos h2]at q;walk_at "ws";refine Gb ro nofun z1 .e nofun (λH3 z3=>?_);walk_at "ws";exact uO ro nofun z3 .e nofun (λH4 z4=>q H4 z4)
 .rw[if_neg (nt h2)]at q;exact q
end
abbrev cW (R:Rt)(b a:Addr)(x:Bx)(cs:List Int)(ws:List Str)(O:List aj)(Q:VK)(E:XK):qG->Prop
 | .on x' cs'=>∀ H',Sep (ar R b x'::bM R a cs' ws::O) H'->Q (wf 1) H'
 | .no d c=>∀ e H',Sep (i8 (R.cad 2) [("deed",wl d),("cell",wf c)] e false::ar R b x::bM R a cs ws::O) H'->E e H'
 | .nf n i=>∀ e H',Sep (i8 (R.cad 3) [("box",wl n.nm),("number",wf i)] e false::ar R b x::bM R a cs ws::O) H'->E e H'
def nq {b:Addr}{cs:List Int}{n:Bn}(ro:Ro K R)(hk:4<=k)(z:Sep (ar R b x::bM R a cs ws::O) H)(q:cW R b a x cs ws O (λ_=>Q wn) E (dR x cs n i)):aa tab R k 15 [v4 b,wl n.nm,wf i] H Q E:=by
 unfold dR at q;refine JI ro hk z (λh H' z'=>?_) (λh e H' z'=>?_)
 .rw[if_pos h]at q;exact q H' z'
 .rw[if_neg (by rw[h];exact Bool.false_ne_true)]at q;exact q e H' z'
def cW.imp {b:Addr}{cs:List Int}{Q':VK}(h:∀ H',Q (wf 1) H'->Q' (wf 1) H'):∀ {o:qG},cW R b a x cs ws O Q E o->cW R b a x cs ws O Q' E o
 | .on _ _,q=>λH' z=>h _ (q H' z)
 | .no _ _,q=>q
 | .nf _ _,q=>q
def vU (sp:Sp)(hb:∀ n,sp≠.read n) (ro:Ro K R):∃ f,tab.me.lookup (sp.cl,("step":Str))=some f/\(∀ Ψ,dflt ⟨tab,R,Ψ,.calm⟩ f 3=[])/\∀ {k:Nat}{de b a:Addr}{x:Bx}{cs:List Int}{ws:List Str}{O:List aj}{H:Hp}{Q:VK}{E:XK},5<=k->Sep (ar R b x::bM R a cs ws::sd R de sp::O) H->cW R b a x cs ws (sd R de sp::O) Q E (iM x cs ws sp)->aa tab R k f [v4 de,v4 b,v4 a] H Q E:=by
 cases sp with
 |set n i=>
  refine⟨21,rfl,λ_=>rfl,λ{k de b a x cs ws O H Q E} hk z q=>wc (d:=jb) nofun rfl rfl ?_⟩;obtain⟨dx,e⟩:=sD z (by symm);right;refine ag aW z (by symm) rfl rfl ?_;left;refine bL e rfl rfl rfl ?_;left;refine bL e rfl rfl rfl ?_;left;refine bb (vs':=[_,_,_]) rfl ?_;exact nq ro nofun z (cW.imp (Q:=Q) (λH' h=>h) q)
 |add n i=>
  refine⟨24,rfl,λ_=>rfl,λ{k de b a x cs ws O H Q E} hk z q=>wc (d:=jZ) nofun rfl rfl ?_⟩;obtain⟨dx,e⟩:=sD z (by symm);right;refine ag aW z (by symm) rfl rfl ?_;left;refine bL e rfl rfl rfl ?_;right;refine ag aW z (by symm) rfl rfl ?_;left;refine bL e rfl rfl rfl ?_;left;refine bb (vs':=[_,_]) rfl ?_;refine zV (n:=n) ro nofun z (by symm) ?_;left;refine bL e rfl rfl rfl ?_;right;refine bb (vs':=[_,_,_]) rfl ?_;exact nq ro nofun z (cW.imp (Q:=Q) (λH' h=>h) q)
 |take n m=>
  refine⟨27,rfl,λ_=>rfl,λ{k de b a x cs ws O H Q E} hk z q=>wc (d:=iq) nofun rfl rfl ?_⟩;obtain⟨dx,e⟩:=sD z (by symm);right;refine ag aW z (by symm) rfl rfl ?_;left;refine bL e rfl rfl rfl ?_;right;refine ag aW z (by symm) rfl rfl ?_;left;refine bL e rfl rfl rfl ?_;left;refine bb (vs':=[_,_]) rfl ?_;refine zV (n:=m) ro nofun z (by symm) ?_;left;refine bb (vs':=[_,_,_]) rfl ?_;exact nq ro nofun z (cW.imp (Q:=Q) (λH' h=>h) q)
 |read n=>exact absurd rfl (hb n)
 |write n=>
  refine⟨33,rfl,λ_=>rfl,λ{k de b a x cs ws O H Q E} hk z q=>wc (d:=f9) nofun rfl rfl ?_⟩;obtain⟨dx,e⟩:=sD z (by symm);have q:cW R b a x cs ws (sd R de (.write n)::O) Q E (if gX (wf (x.g n))=true then(if aq ws "put" x.t=true then .on x (cs.set x.t.toNat (x.g n)) else .no "put" x.t) else .nf n (x.g n)):=q;right;refine ag aW z (by symm) rfl rfl ?_;left;refine bL e rfl rfl rfl ?_;left;refine bb (vs':=[_,_]) rfl ?_;refine zV (n:=n) ro nofun z (by symm) ?_;right;refine bT (t:="int") ro nofun rfl ?_;cases hc:gX (wf (x.g n)) with
  |false=>
   rw[if_neg (by rw[hc];exact Bool.false_ne_true)]at q;right;refine bL e rfl rfl rfl ?_;right;intro ex he;refine fT nofun (z.new he) (λd H3 hs3=>⟨rfl,?_⟩);exact dU (G:=⟨tab,R,aa tab R (k-1),.calm⟩) hs3 .e rfl (λH4 hs4=>q ex H4 (ir hs4))
  |true=>
   rw[if_pos hc]at q;right;refine ag bE z (by symm) rfl rfl ?_;right;refine ag aW z (by symm) rfl rfl ?_;left;refine bb (vs':=[_,_]) rfl ?_;refine zV (n:=.t) ro nofun z (by symm) ?_;left;refine bb (vs':=[_,_,_]) rfl ?_;have hc2:0<=x.g n/\x.g n<=1000000000:=by
    have hc3:(decide (0<=x.g n)&&decide (x.g n<=1000000000))=true:=hc;simpa using hc3
   refine jC (i:=x.t) (j:=x.g n) nofun z (by ac_rfl) (.inr ⟨rfl,hc2.1⟩) (λh H' z'=>?_) (λh e H' z'=>?_)
   .rw[if_pos h]at q;exact q H' z'
   .rw[if_neg (by rw[h];exact Bool.false_ne_true)]at q;exact q e H' z'
abbrev a6:Rw->Prop
 | .lg .seek=>False
 | .lg .mtch=>False
 | .sp (.read _)=>False
 |_=>True
def uf (wd:Wd)(hb:a6 (.lg wd))(ro:Ro K R):∃ f,tab.me.lookup (wd.cl,("step":Str))=some f/\(∀ Ψ,dflt ⟨tab,R,Ψ,.calm⟩ f 3=[])/\∀ {k:Nat}{v:V}{b a:Addr}{x:Bx}{cs:List Int}{ws:List Str}{O:List aj}{H:Hp}{Q:VK}{E:XK},8<=k->Sep (ar R b x::bM R a cs ws::O) H->pJ R b a x cs ws O Q E (eI wd x cs ws)->aa tab R k f [v,v4 b,v4 a] H Q E:=by
 cases wd
 .exact⟨41,rfl,λ_=>rfl,λhk z q=>Bz ro hk z q⟩
 .exact⟨43,rfl,λ_=>rfl,λhk z q=>zG ro hk z q⟩
 .exact hb.elim
 .exact hb.elim
 .exact⟨49,rfl,λ_=>rfl,λhk z q=>yB ro nofun z q⟩
 .exact⟨51,rfl,λ_=>rfl,λhk z q=>Ba ro nofun z q⟩
abbrev rj (R:Rt)(b a:Addr)(x:Bx)(cs:List Int)(ws:List Str)(O:List aj)(Q:VK)(E:XK):eJ->Prop
 | .on r x' cs'=>∀ H',Sep (ar R b x'::bM R a cs' ws::O) H'->Q (wf r) H'
 | .no d c=>∀ e H',Sep (i8 (R.cad 2) [("deed",wl d),("cell",wf c)] e false::ar R b x::bM R a cs ws::O) H'->E e H'
 | .nf n i=>∀ e H',Sep (i8 (R.cad 3) [("box",wl n.nm),("number",wf i)] e false::ar R b x::bM R a cs ws::O) H'->E e H'
def xW (r:Rw)(hb:a6 r)(ro:Ro K R):∃ f,tab.me.lookup (r.cl,("step":Str))=some f/\(∀ Ψ,dflt ⟨tab,R,Ψ,.calm⟩ f 3=[])/\∀ {k:Nat}{de b a:Addr}{x:Bx}{cs:List Int}{ws:List Str}{O:List aj}{H:Hp}{Q:VK}{E:XK},8<=k->Sep (ar R b x::bM R a cs ws::fR R de r::O) H->rj R b a x cs ws (fR R de r::O) Q E (dz x cs ws r)->aa tab R k f [v4 de,v4 b,v4 a] H Q E:=by
 cases r with
 |lg w=>
  obtain⟨f,hf,hd,hs⟩:=uf w hb ro;refine⟨f,hf,hd,λ{k de b a x cs ws O H Q E} hk z q=>hs hk z ?_⟩;have q:rj R b a x cs ws (fR R de (.lg w)::O) Q E (ofM (eI w x cs ws)):=q
  revert q
  cases eI w x cs ws<;>exact λq=>q
 |sp s=>
  obtain⟨f,hf,hd,hs⟩:=vU s (λn e=>by subst e;exact hb) ro;refine⟨f,hf,hd,λ{k de b a x cs ws O H Q E} hk z q=>hs nofun z ?_⟩;have q:rj R b a x cs ws (fR R de (.sp s)::O) Q E (yF (iM x cs ws s)):=q
  revert q
  cases iM x cs ws s<;>exact λq=>q
 |hop n o=>
  refine⟨89,rfl,λ_=>rfl,λ{k de b a x cs ws O H Q E} hk z q=>?_⟩;exact AA ro nofun z .k2 .e (q H z)
def Aa {de b:Addr}{cs:List Int}(r:Rw)(hb:a6 r)(ro:Ro K R)(hk:9<=k)(z:Sep (ar R b x::bM R a cs ws::fR R de r::O) H)
  (q:∀ t H',Sep (KR t (dz x cs ws r)::ar R b ((dz x cs ws r).bx x)::bM R a ((dz x cs ws r).cs cs) ws::fR R de r::O) H'->Q (v4 t) H'):aa tab R k 55 [v4 de,v4 b,v4 a] H Q E:=by
 obtain⟨f,hf,hd,hst⟩:=xW r hb ro;delta rR;right;refine ag (BX r) z .k2 (by cases r with|lg w=>rfl|sp s=>cases s<;>rfl|hop n o=>rfl) hf ?_;left;refine bb (vs':=[v4 de,v4 b,v4 a]) (by show _::(_++dflt _ _ 3)=_;rw[hd];rfl) ?_;refine hst nofun z ?_
 revert q
 cases dz x cs ws r with
 |on n x' cs'=>
  intro q H1 z1;right;rename_i t H3 z3;exact q t H3 z3.toT
 |no d c=>
  intro q e H1 z1;obtain⟨dx,z2⟩:=kQ z1;refine⟨2,_,_,true,z2.at,rfl,rfl,?_⟩;left;refine bj rfl ?_;right;rename_i te H3 z3 t H4 z4;have z5:=(z4.toT.pull .k1).toT;exact q t H4 (gP te (z5.sub (.cons .k1 (.cons .e (.drop (.drop .refl))))))
 |nf n i=>
  intro q e H1 z1;obtain⟨dx,z2⟩:=kQ z1;refine⟨3,_,_,false,z2.at,rfl,rfl,?_⟩;left;refine aO rfl ?_;left;refine⟨3,_,_,true,z2.at,rfl,rfl,?_⟩;left;refine bj rfl ?_;right;rename_i te H3 z3 t H4 z4;have z5:=(z4.toT.pull .k1).toT;exact q t H4 (gP te (z5.sub (.cons .k1 (.cons .e (.drop (.drop .refl))))))
section
variable {m l s b a:Addr}{at_:Int}{ds:List V}{rs:List Rw}{x:Bx}{cs:List Int}{ws:List Str}
def vb (ro:Ro K R)(hk:10<=k)(hb:∀ r ∈ rs,a6 r) (h0:0<=at_) (h1:at_<=ds.length) (hd:cn R O ds rs) (z:Sep (ue R m l s b at_ ds::bM R a cs ws::ar R b x::O) H)
  (q:∀ H',Sep (ue R m l s b (mS rs at_ x cs ws).at_ ds::bM R a (mS rs at_ x cs ws).cs ws::ar R b (mS rs at_ x cs ws).x::O) H'->Q (wl (mS rs at_ x cs ws).w) H'):aa tab R k 58 [v4 m,v4 a] H Q E:=by
 delta cq;unfold mS at q;right;refine ag Cb z .e rfl rfl ?_;left;refine Ah nofun z .e ?_
 by_cases he:at_=ds.length
 .rw[decide_eq_true he];right;rw[getElem?_eq_none (by have:=hd.1;omega)]at q;exact q H z
 .rw[decide_eq_false he];have hlt:at_.toNat<rs.length:=by have:=hd.1;omega
  have er:rs[at_.toNat]? =some rs[at_.toNat]:=li hlt;generalize rs[at_.toNat]=r at er;obtain⟨de,Δ,e2,p⟩:=hd.2 _ _ er;rw[er]at q;dsimp only at q;obtain⟨dx,z1⟩:=Dz z;right;refine aP (i:=at_) (by grind) (cR h0 e2) ?_;right;have z2:Sep (ar R b x::bM R a cs ws::fR R de r::pt m (wv (R.cad 22) dx [("deeds",v4 l),("store",v4 s),("boxes",v4 b),("at",wf at_)])::pt dx (.own m)::pt l (wp ds)::Δ) H:=z1.sub (.cons (.t .k3) (.cons .k3 (.cons (.j2 (.t p)) .refl)));refine Aa r (hb r (db er)) ro nofun z2 (λt H2 z3=>?_);clear z z1 z2
  revert q z3
  cases dz x cs ws r with
  |on n x' cs'=>
   intro q z3;have z3:Sep (tu t [wf n,wn]::ar R b x'::bM R a cs' ws::fR R de r::pt m (wv (R.cad 22) dx [("deeds",v4 l),("store",v4 s),("boxes",v4 b),("at",wf at_)])::pt dx (.own m)::pt l (wp ds)::Δ) H2:=z3;right;refine jJ ?_;left;refine aO rfl ?_;right;rename_i H4 z4;rw[hd.1]at z4;refine q H4 (By (dx:=dx) ?_);exact(z4.sub (Γ':=fR R de r::pt m _::pt dx (.own m)::pt l (wp ds)::bM R a cs' ws::ar R b x'::Δ) (by ac_nf)).push (.j2 (.j2 (.t p)))
  |no d c=>
   intro q z3;obtain⟨te,z4⟩:=iS z3;have z4:Sep (tu t [wn,v4 te]::tu te [wl d,wf c]::ar R b x::bM R a cs ws::fR R de r::pt m (wv (R.cad 22) dx [("deeds",v4 l),("store",v4 s),("boxes",v4 b),("at",wf at_)])::pt dx (.own m)::pt l (wp ds)::Δ) H2:=z4;right;refine jJ ?_;left;refine bj rfl ?_;refine q H2 (By (dx:=dx) ?_);exact(z4.sub (Γ':=fR R de r::pt m _::pt dx (.own m)::pt l (wp ds)::bM R a cs ws::ar R b x::Δ) (by ac_nf)).push (.j2 (.j2 (.t p)))
  |nf n i=>
   intro q z3;obtain⟨te,z4⟩:=iS z3;have z4:Sep (tu t [wn,v4 te]::tu te [wl "fit",wl n.nm]::ar R b x::bM R a cs ws::fR R de r::pt m (wv (R.cad 22) dx [("deeds",v4 l),("store",v4 s),("boxes",v4 b),("at",wf at_)])::pt dx (.own m)::pt l (wp ds)::Δ) H2:=z4;right;refine jJ ?_;left;refine bj rfl ?_;refine q H2 (By (dx:=dx) ?_);exact(z4.sub (Γ':=fR R de r::pt m _::pt dx (.own m)::pt l (wp ds)::bM R a cs ws::ar R b x::Δ) (by ac_nf)).push (.j2 (.j2 (.t p)))
end
def gi {cs:List Int}{b:Bn}(hx:0<=x.l)(h:dR x cs b i=.on x' cs'):0<=x'.l/\cs'.length=cs.length:=by
 unfold dR at h
 by_cases e:rh b i=true
 .rw[if_pos e]at h;cases h;refine⟨?_,rfl⟩;cases b
  .exact hx
  .exact hx
  .have e:(decide (0<=i)&&decide (i<=1000000000))=true:=e;have e:0<=i/\i<=1000000000:=by simpa using e
   exact e.1
  .exact hx
  .exact hx
  .exact hx
 .rw[if_neg e]at h;cases h
def u6 {cs:List Int}{s:Sp}(hx:0<=x.l)(h:iM x cs ws s=.on x' cs'):0<=x'.l/\cs'.length=cs.length:=by
 cases s with
 |set b i=>exact gi hx h
 |add b i=>exact gi hx h
 |take b c=>exact gi hx h
 |read b=>
  have h:(if aq ws "look" x.h=true then dR x cs b (gt cs x.h) else .no "look" x.h)=.on x' cs':=h
  by_cases e:aq ws "look" x.h=true
  .rw[if_pos e]at h;exact gi hx h
  .rw[if_neg e]at h;cases h
 |write b=>
  have h:(if gX (wf (x.g b))=true then(if aq ws "put" x.t=true then .on x (cs.set x.t.toNat (x.g b)) else .no "put" x.t) else .nf b (x.g b))=qG.on x' cs':=h
  by_cases e:gX (wf (x.g b))=true
  .rw[if_pos e]at h
   by_cases e2:aq ws "put" x.t=true
   .rw[if_pos e2]at h;cases h;exact⟨hx,length_set ..⟩
   .rw[if_neg e2]at h;cases h
  .rw[if_neg e]at h;cases h
def uy {cs:List Int}{r:Rw}(hx:0<=x.l)(h:dz x cs ws r=.on n x' cs'):0<=x'.l/\cs'.length=cs.length:=by
 cases r with
 |lg w=>
  have h:ofM (eI w x cs ws)=.on n x' cs':=h;cases e:eI w x cs ws with
  |no d c=>rw[e]at h;cases h
  |on r y ys=>
   rw[e]at h;cases h;exact yn hx e
 |hop m o=>cases h;exact⟨hx,rfl⟩
 |sp s=>
  have h:yF (iM x cs ws s)=.on n x' cs':=h;cases e:iM x cs ws s with
  |on y ys=>rw[e]at h;cases h;exact u6 hx e
  |no d c=>rw[e]at h;cases h
  |nf b i=>rw[e]at h;cases h
def sG {cs:List Int}(hx:0<=x.l):0<=(mS rs at_ x cs ws).x.l/\(mS rs at_ x cs ws).cs.length=cs.length:=by
 unfold mS;cases e:rs[at_.toNat]? with
 |none=>exact⟨hx,rfl⟩
 |some r=>
  dsimp only;cases ho:dz x cs ws r with
  |no d c=>exact⟨hx,rfl⟩
  |nf b i=>exact⟨hx,rfl⟩
  |on n x' cs'=>exact uy hx ho
abbrev eJ.mp (f:Int->Int):eJ->eJ
 | .on n x cs=>.on n x (cs.map f)
 | .no d c=>.no d c
 | .nf b i=>.nf b i
section
variable {f:Int->Int}{x x':Bx}{cs cs':List Int}{ws:List Str}{r:Rw}{n i j:Int}{rs:List Rw}{at_:Int}
def qN (h0:0<=i)(h1:i<cs.length):gt (cs.map f) i=f (gt cs i):=by
 unfold gt;rw[io,li nofun]
 rfl
def vJ {g:List Int->Out}(hl:cs.length=ws.length)(hg:∀ l,ofM (g (l.map f))=(ofM (g l)).mp f):ofM (hm (cs.map f) ws i j g)=(ofM (hm cs ws i j g)).mp f:=by
 unfold hm
 by_cases m1:aq ws "look" i=true
 .rw[if_pos m1,if_pos m1]
  by_cases m2:aq ws "put" j=true
  .have:=aE m1;rw[if_pos m2,if_pos m2,qN this.1 nofun,<-List.map_set];exact hg _
  .rw[if_neg m2,if_neg m2];rfl
 .rw[if_neg m1,if_neg m1];rfl
def vQ (hf:∀ j,0<=j->f j=j) (hb:a6 r) (hx:x.ok) (hl:cs.length=ws.length):dz x (cs.map f) ws r=(dz x cs ws r).mp f:=by
 obtain⟨o1,o2,o3,o4,o5,o6⟩:=hx;cases r with
 |hop m o=>rfl
 |sp s=>
  have gv:∀ b i,yF (dR x (cs.map f) b i)=(yF (dR x cs b i)).mp f:=λb i=>by
   unfold dR
   split<;>rfl
  cases s with
  |set b i=>exact gv _ _
  |add b i=>exact gv _ _
  |take b c=>exact gv _ _
  |read b=>exact hb.elim
  |write b=>
   show yF (if gX (wf (x.g b))=true then(if aq ws "put" x.t=true then .on x ((cs.map f).set x.t.toNat (x.g b)) else .no "put" x.t) else .nf b (x.g b))=(yF (if gX (wf (x.g b))=true then(if aq ws "put" x.t=true then .on x (cs.set x.t.toNat (x.g b)) else .no "put" x.t) else .nf b (x.g b))).mp f
   by_cases hc:gX (wf (x.g b))=true
   .have hc3:(decide (0<=x.g b)&&decide (x.g b<=1000000000))=true:=hc;have hc2:0<=x.g b/\x.g b<=1000000000:=by simpa using hc3
    rw[if_pos hc,if_pos hc]
    split
    .show eJ.on 1 x _=eJ.on 1 x _;rw[List.map_set,hf _ hc2.1]
    .rfl
   .rw[if_neg hc,if_neg hc];rfl
 |lg w=>
  cases w with
  |seek=>exact hb.elim
  |mtch=>exact hb.elim
  |copy=>
   show ofM (ju x (cs.map f) ws)=(ofM (ju x cs ws)).mp f;unfold ju
   split
   .rfl
   .exact vJ hl λl=>rfl
  |fill=>
   show ofM (j5 x (cs.map f) ws)=(ofM (j5 x cs ws)).mp f;unfold j5
   split
   .rfl
   .split
    .show eJ.on _ _ _=eJ.on _ _ _;rw[List.map_set,hf _ o5.1]
    .rfl
  |shift=>
   show ofM (fu x (cs.map f) ws)=(ofM (fu x cs ws)).mp f;unfold fu
   split
   .rfl
   .split<;>exact vJ hl λl=>rfl
  |turn=>
   show ofM (jr x (cs.map f) ws)=(ofM (jr x cs ws)).mp f;unfold jr xm
   split
   .rfl
   .split
    .rfl
    .by_cases m1:aq ws "look" x.h=true
     .by_cases m2:aq ws "look" (x.h+x.l-1)=true
      .have g1:=aE m1;have g2:=aE m2;rw[if_pos m1,if_pos m2,if_pos m1,if_pos m2,qN g1.1 nofun,qN g2.1 nofun,<-List.map_set,<-List.map_set]
       split
       .split<;>rfl
       .rfl
      .rw[if_pos m1,if_neg m2,if_pos m1,if_neg m2];rfl
     .rw[if_neg m1,if_neg m1];rfl
def zl (hb:a6 r)(hx:x.ok)(hl:ws.length<=60)(h:dz x cs ws r=.on n x' cs'):x'.ok:=by
 have ox:=hx;obtain⟨o1,o2,o3,o4,o5,o6⟩:=hx;cases r with
 |hop m o=>cases h;exact ox
 |sp s=>
  have gv:∀ b i,yF (dR x cs b i)=.on n x' cs'->x'.ok:=λb i h=>by
   unfold dR at h
   split at h
   .rename_i g;cases h;exact yv g ox
   .cases h
  cases s with
  |set b i=>exact gv _ _ h
  |add b i=>exact gv _ _ h
  |take b c=>exact gv _ _ h
  |read b=>exact hb.elim
  |write b=>
   have h:yF (if gX (wf (x.g b))=true then(if aq ws "put" x.t=true then .on x (cs.set x.t.toNat (x.g b)) else .no "put" x.t) else .nf b (x.g b))=.on n x' cs':=h
   split at h
   .split at h
    .cases h;exact ox
    .cases h
   .cases h
 |lg w=>
  have h:ofM (eI w x cs ws)=.on n x' cs':=h;cases e:eI w x cs ws with
  |on r y c=>rw[e]at h;cases h;exact(mX e).1.2.2 ox hl
  |no d c=>rw[e]at h;cases h
def wx (hf:∀ j,0<=j->f j=j) (hb:∀ r ∈ rs,a6 r) (hx:x.ok) (hl:cs.length=ws.length):(mS rs at_ x (cs.map f) ws).w=(mS rs at_ x cs ws).w/\(mS rs at_ x (cs.map f) ws).at_=(mS rs at_ x cs ws).at_/\(mS rs at_ x (cs.map f) ws).x=(mS rs at_ x cs ws).x/\(mS rs at_ x (cs.map f) ws).cs=(mS rs at_ x cs ws).cs.map f:=by
 unfold mS;cases e:rs[at_.toNat]? with
 |none=>exact⟨rfl,rfl,rfl,rfl⟩
 |some r=>
  dsimp only;rw[vQ hf (hb r (db e)) hx hl];cases dz x cs ws r<;>exact⟨rfl,rfl,rfl,rfl⟩
def yC (hb:∀ r ∈ rs,a6 r) (hx:x.ok) (hl:ws.length<=60):(mS rs at_ x cs ws).x.ok:=by
 unfold mS;cases e:rs[at_.toNat]? with
 |none=>exact hx
 |some r=>
  dsimp only;cases ho:dz x cs ws r with
  |on n x' cs'=>exact zl (hb r (db e)) hx hl ho
  |_=>exact hx
end
inductive Tr (rs:List Rw) (ws:List Str):Int->Bx->List Int->List (Bx×List Int)->Prop where
 |stop {at_:Int}{x:Bx}{cs:List Int}(h:(mS rs at_ x cs ws).w≠"on"):Tr rs ws at_ x cs [(x,cs)]
 |on {at_:Int}{x:Bx}{cs:List Int}{L:List (Bx×List Int)}(h:(mS rs at_ x cs ws).w="on") (t:Tr rs ws (mS rs at_ x cs ws).at_ (mS rs at_ x cs ws).x (mS rs at_ x cs ws).cs L):Tr rs ws at_ x cs ((x,cs)::L)
section
variable {rs:List Rw}{ws:List Str}{at_:Int}{x:Bx}{cs:List Int}{L L':List (Bx×List Int)}
def Tr.det (h:Tr rs ws at_ x cs L):∀ {L'},Tr rs ws at_ x cs L'->L=L':=by
 induction h with
 |stop h=>
  intro L' h';cases h' with
  |stop=>rfl
  |on g=>exact absurd g h
 |on h t ih=>
  intro L' h';cases h' with
  |stop g=>exact absurd h g
  |on g t'=>rw[ih t']
abbrev J3 (f:Int->Int)(p:Bx×List Int):Bx×List Int:=(p.1,p.2.map f)
def Tr.map {f:Int->Int}(hf:∀ j,0<=j->f j=j) (hb:∀ r ∈ rs,a6 r) (w60:ws.length<=60) (h:Tr rs ws at_ x cs L):x.ok->cs.length=ws.length->Tr rs ws at_ x (cs.map f) (L.map (J3 f)):=by
 induction h with
 |stop h=>
  intro hx hl;exact .stop (by rw[(wx hf hb hx hl).1];exact h)
 |on h t ih=>
  intro hx hl;obtain⟨e1,e2,e3,e4⟩:=wx (at_:=_) hf hb hx hl;refine .on (by rw[e1];exact h) ?_;rw[e2,e3,e4];exact ih (yC hb hx w60) (by rw[(sG hx.2.2.1.1).2];exact hl)
def Tr.all {P:Bx×List Int->Prop}(hb:∀ r ∈ rs,a6 r) (w60:ws.length<=60) (hP:∀ x cs,x.ok->cs.length=ws.length->P (x,cs)) (h:Tr rs ws at_ x cs L):x.ok->cs.length=ws.length->∀ p ∈ L,P p:=by
 induction h with
 |stop h=>
  intro hx hl p hp;rw[mem_singleton.mp hp];exact hP _ _ hx hl
 |on h t ih=>
  intro hx hl p hp;rcases lw.mp hp with rfl|hp
  .exact hP _ _ hx hl
  .exact ih (yC hb hx w60) (by rw[(sG hx.2.2.1.1).2];exact hl) p hp
def Tr.ne (h:Tr rs ws at_ x cs L):∃ L',L=(x,cs)::L':=by cases h<;>exact⟨_,rfl⟩
end
def Dq {cs:List Nat}{j:Nat}{fs:List (Str×V)}{b:Bool}(s:Sep O H)(ho:G.T.oc.contains j=true)(e:H a=some (wv (G.R.cad j) dx fs))(hb:anyS G j cs=some b)(q:∀ p H',Sep (tu p (cs.map λc=>v4 (G.R.cad c))::O) H'->Q (.bl b) H'):∀ p,H p=none->nX G cs (v4 a) (upd H p (wr (cs.map λc=>v4 (G.R.cad c)))) Q:=λp hp=>by
 unfold nX;refine .inr ⟨a,j,b,rfl,.inl ⟨ho,dx,fs,?_⟩,hb,q p _ (s.iK hp)⟩;rw[af λz=>by rw[z,hp]at e;cases e];exact e
abbrev aR:Rw->Bool
 | .lg .seek=>true
 | .lg .mtch=>true
 | .sp (.read _)=>true
 |_=>false
def pC (hT:G.T=tab)(r:Rw):anyS G r.cl [18,19,14]=some (aR r)/\G.T.oc.contains r.cl=true:=by
 cases G;cases hT;cases r with
 |lg w=>cases w<;>exact⟨rfl,rfl⟩
 |sp s=>cases s<;>exact⟨rfl,rfl⟩
 |hop n o=>exact⟨rfl,rfl⟩
def pQ {r:Rw}(h:aR r=false):a6 r:=by
 cases r with
 |lg w=>cases w<;>first|exact True.intro|cases h
 |sp s=>cases s<;>first|exact True.intro|cases h
 |hop n o=>exact True.intro
section
variable {L:Addr}{ds:List V}{rs:List Rw}
def Au {r:Rw}(hk:1<=k)(z:Sep O H)(p:ae (fR R d r) O Δ)(q:∀ H',Sep O H'->Q (.bl (aR r)) H'):aa tab R k 70 [v4 d] H Q E:=by
 delta bP;obtain⟨dx,fs,e⟩:=Cf z p;left;exact Dq z (pC rfl r).2 e (pC rfl r).1 (λp H' z'=>q H' z'.drop)
end
section
variable {L:Addr}{ds:List V}{rs:List Rw}
def iN {x:Addr}(hk:1<=k)(s:Sep (pt x (.exc (R.cad 8) none [] true)::O) H)(q:∀ d H',Sep (pt x (.exc (R.cad 8) (some d) [("at",v)] true)::pt d (.own x)::O) H'->Q wn H'):aa tab R k 7 [v4 x,v] H Q E:=by
 delta bO;right;refine⟨_,8,_,_,_,_,rfl,by grind,rfl,?_⟩;right;refine sU s rfl rfl (λd H hs=>?_);right;exact q d H hs
def eL (hk:2<=k)(hd:cn R O ds rs)(z:Sep O H)(p:ae (pt L (wp ds)) O Δ)(q0:rs.any aR=false->∀ H',Sep O H'->Q wn H')
  (q1:∀ (j:Nat) r,rs[j]? =some r->aR r=true->(∀ (i:Nat) r,i<j->rs[i]? =some r->aR r=false)->∀ e H',Sep (i8 (R.cad 8) [("at",wf (j:Int))] e false::O) H'->E e H'):aa tab R k 71 [v4 L] H Q E:=by
 delta ff;have hl:=hd.1;left;refine⟨rfl,?_⟩;refine Dn (z.get p) ?_;refine lZ (xs:=ds) (λj U H=>∃ u v,U=[some (v4 L),u,v]/\(∀ (i:Nat) r,i<j->rs[i]? =some r->aR r=false)/\Sep O H) ?_ ?_ ?_ ?_
 .exact⟨none,none,rfl,λi r h=>absurd h (Nat.not_lt_zero _),z⟩
 .rintro j U H ⟨u,v,rfl,_,hs⟩;exact hs.get p
 .rintro j y T U H hy ⟨u,v,rfl,hb,hs⟩ hT;have hyl:=(tz.mp hy).1;have er:rs[j]? =some (rs[j]'nofun):=li _;generalize rs[j]'nofun=r at er;obtain⟨a,Δ',e3,pp⟩:=hd.2 _ _ er;rw[hy]at e3;cases e3;have hs4:=hs.iK (xs:=[wf j,v4 a]) hT;generalize upd H T _=H4 at hs4⊢;have eT:=hs4.atT;left;refine⟨T,_,rfl,.inl (aX.of eT),rfl,?_⟩;left;refine⟨rfl,?_⟩;refine Au nofun hs4 (.t pp) (λH5 z5=>?_);cases hr:aR r with
  |false=>
   left;refine aO rfl ?_;refine⟨_,_,rfl,λi r' hi e=>?_,z5.drop⟩
   by_cases he:i=j
   .subst he;rw[er]at e;cases e;exact hr
   .exact hb i r' nofun e
  |true=>
   left;refine bj rfl ?_;right;intro x hx;refine iN nofun (z5.new hx) (λd H hs=>?_);right;exact dU hs (by ac_rfl) rfl (λH hs=>q1 j r er hr hb x H ((ir hs).sub (by ac_nf)))
 .rintro U H ⟨u,v,rfl,hb,hs⟩;refine q0 ?_ H hs;rw[any_eq_false];intro r hr;obtain⟨i,hi⟩:=getElem?_of_mem hr;have:=(tz.mp hi).1;simp[hb i r nofun hi]
end
def cn.app {L:List aj}(h:cn R O ds rs):cn R (L++O) ds rs:=⟨h.1,λi r e=>by
 obtain⟨a,Δ,e2,p⟩:=h.2 i r e;exact⟨a,_,e2,ak p⟩⟩
def Sep.mv:∀ {L P Δ O:List aj}{H:Hp},Sep (P++(Δ++(L++O))) H->Sep (P++(L++(Δ++O))) H
 | [],_,_,_,_,z=>z
 |A::L,P,Δ,O,H,z=>(Sep.mv (L:=L) (P:=A::P) (Δ:=Δ) (O:=O) (z.pull (ak (ak .e)))).push (ak .e)
abbrev dy (n:Nat):List Int:=(List.range n).map λi:Nat=>-1-(i:Int)
abbrev dA (n:Nat):List Str:=sK n (Str.ofString "open")
def eA {n:Nat}:(dy n).length=n:=by unfold dy;rw[ci,List.length_range]
def bH {n:Nat}:(dA n).length=n:=length_replicate
def JM {n:Nat}(h0:1<=n)(h1:n<=60):Eh (dy n) (dA n):=⟨by rw[eA,bH],by rw[eA];exact h0,by rw[eA];exact h1,by rw[bH];rfl⟩
def zN {n:Nat}(hk:1<=k)(n0:1<=n)(n1:n<=60)(z:Sep (pt a (wv (R.cad 24) dx [])::pt dx (.own a)::O) H)(q:∀ H',Sep (bM R a (dy n) (dA n)::O) H'->Q wn H'):aa tab R k 72 [v4 a,wf (n:Int)] H Q E:=by
 delta bZ;left;refine⟨rfl,⟨by omega,by omega,?_⟩⟩;refine mY (n:=(n:Int).toNat) nofun (λD ys H=>Sep (pt D (wp ys)::cw ys (dy ys.length)::pt a (wv (R.cad 24) dx [])::pt dx (.own a)::O) H) (λD hD=>(cw.mk (by rfl) (λi v j h=>by cases h) (z.new (o:=wp []) hD)).pull .k1) (λD ys H hl hI=>?_) (λD ys H hl hI=>?_)
 .left;refine bq hI (pc rfl) (λT H2 z2=>?_);have z3:=(z2.pull .k1).set (o':=wp (ys++[v4 T])) rfl;refine vp.mk (z2.get .k1) nofun ?_;have e1:H2 T=some (wr [wl "cell",wf (0+((ys.length:Nat):Int))]):=z2.at;have e0:=z3.get .k1;have z4:=cw.snoc (z3.pull .k2) (v:=v4 T) (j:= -1-((ys.length:Nat):Int)) ⟨T,rfl,by
   rw[vq,if_pos nofun,show -1-(-1-((ys.length:Nat):Int))=0+((ys.length:Nat):Int) by omega];exact e0⟩
  have e5:dy ys.length++[-1-((ys.length:Nat):Int)]=dy (ys++[v4 T]).length:=by
   unfold dy;rw[cr,ge,List.range_succ,f8]
   rfl
  rw[e5]at z4;exact z4.sub (by ac_nf)
 .right;rename_i H2 z2;rw[hl,sn]at z2;exact q H2 (B1 (dx:=dx) (l:=D) (vs:=ys) (by rw[eA];omega) (JM n0 n1) (z2.sub (by ac_nf)))
def tT {cs:List Int}(hk:1<=k)(z:Sep O H)(p:ae (bM R a cs ws) O Δ)(q:∀ l vs H',Sep (pt l (wp vs)::cw vs cs::O) H'->Q (v4 l) H'):aa tab R k 76 [v4 a] H Q E:=by
 delta dI;obtain⟨dx,l,vs,⟨h1,h2,h3,h4,h5⟩,z1⟩:=pv (z.pull p);have z0:Sep (cw vs cs::O) H:=cw.mk (cw.of (z1.pull .k3)).1 (cw.of (z1.pull .k3)).2 z;left;refine bL z1.at rfl rfl rfl ?_;left;exact eC z0 (z1.get .k2) (λp2 H2 z2=>q p2 vs H2 z2)
noncomputable abbrev Sh:=Addr×(Bx×List Int)
abbrev jW (p:Sh):aj:=bx λq:Addr×Addr×List V=>[tu p.1 [v4 q.1,v4 q.2.1],tu q.1 (p.2.1.ls.map wf),pt q.2.1 (wp q.2.2),cw q.2.2 p.2.2]
abbrev ql (p:Sh):V:=v4 p.1
variable {p:Sh}
def Dv (z:Sep (jW p::O) H):∃ b l vs,Sep (tu p.1 [v4 b,v4 l]::tu b (p.2.1.ls.map wf)::pt l (wp vs)::cw vs p.2.2::O) H:=by
 obtain⟨⟨b,l,vs⟩,z⟩:=iS z;exact⟨b,l,vs,z⟩
def Hk {t b:Addr}{cs:List Int}(z:Sep (tu t [v4 b,v4 l]::tu b (x.ls.map wf)::pt l (wp vs)::cw vs cs::O) H):Sep (jW (t,x,cs)::O) H:=gP (b,l,vs) z
section
variable {L b m l s a b2 T:Addr}{ds:List V}{rs:List Rw}{x x0:Bx}{cs:List Int}{ws:List Str}{at_:Int}
abbrev HI (R:Rt)(L b m l s a b2 T:Addr)(N:Nat)(ds:List V)(rs:List Rw)(x0:Bx)(O:List aj)(n:Nat)(U:St)(H:Hp):Prop:=∃ at_ x cs,∃ (S:List Sh) (P:List (Bx×List Int)),0<=at_/\at_<=(rs.length:Int)/\x.ok/\n=tD rs N at_ x/\S.length+n<=1600/\S.map (·.2)=P++[(x,cs)]/\(∀ L,Tr rs (dA N) at_ x cs L->Tr rs (dA N) 0 x0 (dy N) (P++L))/\U=[some (v4 L),some (v4 b),some (wf (N:Int)),some (v4 m),some (v4 a),some (v4 T)]/\Sep (ue R m l s b2 at_ ds::bM R a cs (dA N)::ar R b2 x::pt T (wp (S.map ql))::pt L (wp ds)::ar R b x0::(S.reverse.map jW++O)) H
def gL (ro:Ro K R)(hk:12<=k)(n0:1<=rs.length)(n1:rs.length<=24)(ok:∀ r ∈ rs,r.ok) (hb:rs.any aR=false) (hd:cn R O ds rs) (s0:1<=N) (s1:N<=60) (z:Sep (pt L (wp ds)::ar R b x::O) H)
  (q:∀ T (S:List Sh) H',S.length<=1600->Tr rs (dA N) 0 x (dy N) (S.map (·.2))->Sep (pt T (wp (S.map ql))::pt L (wp ds)::ar R b x::(S.reverse.map jW++O)) H'->Q (v4 T) H'):aa tab R k 77 [v4 L,v4 b,wf (N:Int)] H Q E:=by
 delta gK;have hl:=hd.1;have hbl:∀ r ∈ rs,a6 r:=λr hr=>pQ (by
  have:=any_eq_false.mp hb r hr;simpa using this)
 right;refine cV ro nofun nofun nofun z .e hd.more.more.all (λH1 z1=>?_);clear z;right;refine eL nofun hd.more.more z1 .e (λ_ H2 z2=>?_) (λj r e h _=>by
  have:=any_eq_false.mp hb r (db e);rw[h]at this;exact absurd rfl this)
 clear z1;right;rename_i l0 H3 z3;intro s dx g1 g2 g3;refine si (cs:=[0]) ro nofun (by decide) (by decide) (λi hi=>by rw[mem_singleton.mp hi];decide) (gS z3 g1 g2 g3) .e (λH4 z4=>⟨rfl,?_⟩);clear z2 z3;left;intro m dm g1 g2 g3;refine uJ (at_:=0) (s:=s) (x:=x) (cs:=[0]) ro nofun nofun nofun (by decide) nofun .k2 .e .k3 hd.more.more.more.more.all (gS z4 g1 g2 g3) (λl2 s2 b2 H5 z5=>⟨rfl,?_⟩);clear z4;left;refine⟨rfl,?_⟩;left;intro a da g1 g2 g3;refine zN nofun s0 s1 (gS z5 g1 g2 g3) (λH6 z6=>⟨rfl,?_⟩);clear z5;have z7:Sep (ue R m l2 s2 b2 0 ds::bM R a (dy N) (dA N)::ar R b2 x::pt L (wp ds)::ar R b x::O) H6:=z6.sub (by ac_nf);clear z6;have hx:x.ok:=kN z7 .k2;right;refine ag aW z7 (.t .k3) rfl rfl ?_;left;refine lG ro nofun z7 (.t .k3) (λt1 H7 z8=>?_);right;refine ag bE z8 .k2 rfl rfl ?_;left;refine tT nofun z8 .k2 (λl3 vs H8 z9=>?_);left;refine bq z9 (pc rfl) (λt2 H9 z10=>?_);left;refine mF z10 (pc rfl) (λT HA z11=>?_);have z11a:Sep (jW (t2,x,dy N)::pt T (wp [v4 t2])::ue R m l2 s2 b2 0 ds::bM R a (dy N) (dA N)::ar R b2 x::pt L (wp ds)::ar R b x::O) HA:=Hk (b:=t1) (l:=l3) (vs:=vs) ((z11.pull .k1).toT.sub (by ac_nf));have z12:Sep (ue R m l2 s2 b2 0 ds::bM R a (dy N) (dA N)::ar R b2 x::pt T (wp [v4 t2])::pt L (wp ds)::ar R b x::jW (t2,x,dy N)::O) HA:=z11a.sub (by ac_nf);clear z7 z8 z9 z10 z11 z11a;left;refine⟨HI R L b m l2 s2 a b2 T N ds rs x O,⟨tD rs N 0 x,0,x,dy N,[(t2,x,dy N)],[],by decide,by omega,hx,rfl,?_,rfl,λL t=>t,rfl,z12⟩,?_⟩
 .have:=wg (rs:=rs) (N:=N) (at_:=0) (x:=x);have e:rs.length-Int.toNat 0=rs.length:=by simp
  rw[e]at this;simp only[ge]
  omega
 clear z12;rintro n U H ⟨at_,x1,cs1,S,P,a0,a1,hx1,rfl,hn,hS,hT,rfl,zz⟩;obtain⟨g0,g1,g2⟩:=GX (x:=x1) (cs:=cs1) (ws:=dA N) a0 a1 ok;left;refine⟨rfl,?_⟩;refine ag Cb zz .e rfl rfl ?_;left;refine vb (rs:=rs) ro nofun hbl a0 nofun hd.app.more.more.more zz (λH2 z2=>?_);have ho:=λL=>Tr.on (rs:=rs) (ws:=dA N) (at_:=at_) (x:=x1) (cs:=cs1) (L:=L)
 have hst:=Tr.stop (rs:=rs) (ws:=dA N) (at_:=at_) (x:=x1) (cs:=cs1);have hps:=wA (rs:=rs) (at_:=at_) (x:=x1) (cs:=cs1) (ws:=dA N) hx1.2.2.2.1 a0 ok (by rw[bH];exact s1);have hok:=yC (rs:=rs) (at_:=at_) (cs:=cs1) hbl hx1 (ws:=dA N) (by rw[bH];exact s1);rw[bH]at hps;generalize hm:mS rs at_ x1 cs1 (dA N)=M at z2 g0 g1 g2 ho hst hps hok
 obtain⟨word,at2,x2,cs2⟩:=M;dsimp only at z2 g0 g1 g2 ho hst hps hok;clear zz;rcases g2 with rfl|⟨hwd,rfl,rfl,rfl⟩
 .obtain⟨p1,p2⟩:=hps rfl;left;refine iW rfl rfl ?_;left;refine bj (by rw[jD rfl]) ?_;refine⟨λσ' H'=>HI R L b m l2 s2 a b2 T N ds rs x O (tD rs N at2 x2) σ' H',λσ' H' h=>⟨_,p1,h⟩,?_⟩;left;refine⟨T,_,rfl,z2.get .k3,?_⟩;obtain⟨dx,z3⟩:=Dz z2;left;refine⟨rfl,?_⟩;refine bL z3.at rfl rfl rfl ?_;clear z3;refine ag aW z2 .k2 rfl rfl ?_;left;refine lG ro nofun z2 .k2 (λt3 H3 z4=>?_);right;refine ag bE z4 .k2 rfl rfl ?_;left;refine tT nofun z4 .k2 (λl4 vs2 H4 z5=>?_);left;refine bq z5 (pc rfl) (λt4 H5 z6=>?_);left;refine⟨_,z6.get (.j2 (.j2 .k3)),Ca z6 (.j2 (.j2 .k3)) (by rw[ci];omega) (λH6 z7=>?_)⟩;refine⟨at2,x2,cs2,S++[(t4,x2,cs2)],P++[(x1,cs1)],g0,g1,hok,rfl,by rw[cr,ge];omega,by rw[f8,hS];rfl,λL t=>?_,rfl,?_⟩
  .rw[le];exact hT _ (ho L rfl t)
  .rw[reverse_append,f8,f8,le];have z8:Sep (jW (t4,x2,cs2)::ue R m l2 s2 b2 at2 ds::bM R a cs2 (dA N)::ar R b2 x2::pt T (wp (S.map ql++[v4 t4]))::pt L (wp ds)::ar R b x::(S.reverse.map jW++O)) H6:=Hk (b:=t3) (l:=l4) (vs:=vs2) (z7.toT.sub (by ac_nf));show Sep (ue R m l2 s2 b2 at2 ds::bM R a cs2 (dA N)::ar R b2 x2::pt T (wp (S.map ql++[v4 t4]))::pt L (wp ds)::ar R b x::jW (t4,x2,cs2)::(S.reverse.map jW++O)) H6;exact z8.sub (by ac_nf)
 .have hne:lX (wl word) (wl "on")=false:=by rcases hwd with rfl|rfl<;>decide+kernel
  left;refine iW rfl rfl ?_;left;refine aO hne ?_;left;refine q T S H2 nofun ?_ (z2.sub (by ac_nf));rw[hS];exact hT _ (hst (by rcases hwd with rfl|rfl<;>decide+kernel))
end
section
variable {φ:Int->V}{cs:List Int}{ws:List Str}{d p:Addr}
end
abbrev xt (O:List aj)(ss:List V)(rs:List Rw):Prop:=ss.length=rs.length/\(∀ r ∈ rs,r.ok)/\∀ (i:Nat) (r:Rw),rs[i]? =some r->∃ t Δ,ss[i]? =some (v4 t)/\ae (tu t r.tl) O Δ
def xt.more {ss:List V}(h:xt O ss rs):xt (A::O) ss rs:=⟨h.1,h.2.1,λi r e=>by
 obtain⟨a,Δ,e2,p⟩:=h.2.2 i r e;exact⟨a,_,e2,.t p⟩⟩
section
variable {φ:Int->V}{SP d0 p0 d p T:Addr}{ss:List V}{rs:List Rw}{x x0:Bx}{cs:List Int}{N:Nat}{L:List (Bx×List Int)}{Δ1 Δ2 Δ3:List aj}
def zH {t:Addr}(z:Sep (pt t (y8 true ((tN.zip (x.ls.map wf)).map (·.2)))::O) H):Sep (tu t (x.ls.map wf)::O) H:=by
 rw[vR]at z;exact Sep.toT z
end
abbrev aw (p:Addr×Rw):V:=v4 p.1
abbrev kO (R:Rt)(p:Addr×Rw):aj:=fR R p.1 p.2
abbrev ev (cs:List Int)(j:Int):Int:=if j<0 then gt cs (-1-j) else j
section
variable {C T1 T2 t:Addr}{cs:List Int}{j:Int}
end
def E5 (h0:0<=r)(h1:r<6):∃ wd:Wd,kU [wl "copy",wl "fill",wl "copy",wl "turn",wl "shift",wl "turn"] r=some (wl wd.s)/\aR (.lg wd)=false:=by
 have:r=0\/r=1\/r=2\/r=3\/r=4\/r=5:=by omega
 rcases this with rfl|rfl|rfl|rfl|rfl|rfl
 .exact⟨.copy,rfl,rfl⟩
 .exact⟨.fill,rfl,rfl⟩
 .exact⟨.copy,rfl,rfl⟩
 .exact⟨.turn,rfl,rfl⟩
 .exact⟨.shift,rfl,rfl⟩
 .exact⟨.turn,rfl,rfl⟩
def xI {sz:Int}(hk:2<=k)(s:Sep (hand h m::O) H)(hm:m<=1099510000000)(h0:0<=sz)(h1:sz<=60)(q:∀ t r H',Rw.ok r->aR r=false->Sep (tu t r.tl::hand h (m+10)::O) H'->Q (v4 t) H'):aa tab R k 96 [v4 h,wf sz] H Q E:=by
 delta ik;walk_at "gd";rename_i wy H1 wy0 wy1 hs1 p1 H2 hs2 r2 H3 r20 r21 hs3;obtain⟨b,e2⟩:=wa r20 r21;refine aP (by grind) e2 ?_;clear s hs1 hs2;right;refine aK (λg0=>?_) (λg0=>?_)
 .right;rename_i l4 H4 hs4;obtain⟨wd,e3,hb⟩:=E5 wy0 g0;refine aP (by grind) e3 ?_;right;rename_i t H5 hs5;have z6:Sep (tu t (Rw.tl (.lg wd))::_) _:=hs5.toT;exact q t (.lg wd) _ True.intro hb ((ah (n:=m+10) (z6.pull (A:=hand h _) (by symm)) nofun).sub (by ac_nf))
 right;refine aK (λg1=>?_) (λg1=>?_)
 .walk_at "gd";rename_i l4 H4 hs4 r5 H5 r50 r51 hs5;obtain⟨v,e3,b3,rfl⟩:=ic (P:=sR) (xs:=[wl "here",wl "there",wl "left",wl b.nm]) (r:=r5) r50 (by simpa using r51) (Kn ⟨.h,rfl⟩ ⟨.t,rfl⟩ ⟨.l,rfl⟩ ⟨b,rfl⟩);refine aP (by grind) e3 ?_;walk_at "gd";rename_i r6 H6 r60 r61 hs6 r7 H7 r70 r71 hs7 r8 H8 r80 r81 hs8 r9 H9 r90 r91 hs9 l10 H10 hs10;obtain⟨v,e4,i,rfl,i0,i1⟩:=ic (xs:=[wf r7,wf (r8-2),wf (10 ^ Int.toNat 9-r9)]) (P:=inR (-1000000000) 1000000000) (r:=r6 / 3) nofun (by simp;omega) (HZ (.mk nofun nofun) (.mk nofun nofun) (.mk (by rw[lR];omega) (by rw[lR];omega)));refine aP (by grind) e4 ?_;right;rename_i t H11 hs11;have z6:Sep (tu t (Rw.tl (.sp (.set b3 i)))::_) _:=hs11.toT;exact q t (.sp (.set b3 i)) _ ⟨i0,i1⟩ rfl ((ah (n:=m+10) (z6.pull (A:=hand h _) (by symm)) nofun).sub (by ac_nf))
 right;refine bc (λg2=>?_) (λg2=>?_)
 .walk_at "gd";rename_i r6 H6 r60 r61 hs6 r7 H7 r70 r71 hs7 r8 H8 r80 r81 hs8 l10 H10 hs10;obtain⟨v,e4,i,rfl,i0,i1⟩:=ic (xs:=[wf (r7-3),wf r8,wf (-(10 ^ Int.toNat 9))]) (P:=inR (-1000000000) 1000000000) (r:=r6 / 3) nofun (by simp;omega) (HZ (.mk nofun nofun) (.mk nofun nofun) (.mk (by rw[lR];omega) (by rw[lR];omega)));refine aP (by grind) e4 ?_;right;rename_i t H11 hs11;have z6:Sep (tu t (Rw.tl (.sp (.add b i)))::_) _:=hs11.toT;exact q t (.sp (.add b i)) _ ⟨i0,i1⟩ rfl ((ah (n:=m+10) (z6.pull (A:=hand h _) (by symm)) nofun).sub (by ac_nf))
 right;refine bc (λg3=>?_) (λg3=>?_)
 .walk_at "gd";rename_i r6 H6 r60 r61 hs6;obtain⟨c,e3⟩:=wa r60 r61;refine aP (by grind) e3 ?_;right;rename_i t H11 hs11;have z6:Sep (tu t (Rw.tl (.sp (.take b c)))::_) _:=hs11.toT;exact q t (.sp (.take b c)) _ True.intro rfl ((ah (n:=m+10) (z6.pull (A:=hand h _) (by symm)) nofun).sub (by ac_nf))
 right;refine aK (λg4=>?_) (λg4=>?_)
 .right;rename_i t H11 hs11;have z6:Sep (tu t (Rw.tl (.sp (.write b)))::_) _:=hs11.toT;exact q t (.sp (.write b)) _ True.intro rfl ((ah (n:=m+10) (z6.pull (A:=hand h _) (by symm)) nofun).sub (by ac_nf))
 walk_at "gd";rename_i r6 H6 r60 r61 hs6 l7 H7 hs7 r8 H8 r80 r81 hs8;obtain⟨o,e3,ho⟩:=EG r80 r81;refine aP (by grind) e3 ?_;right;rename_i t H11 hs11;have z6:Sep (tu t (Rw.tl (.hop r6 o))::_) _:=hs11.toT;exact q t (.hop r6 o) _ ⟨⟨by omega,by omega⟩,ho⟩ rfl ((ah (n:=m+10) (z6.pull (A:=hand h _) (by symm)) nofun).sub (by ac_nf))
def vG {t:Addr}(r:Rw)(ro:Ro K R)(hk:5<=k)(ok:r.ok)(hb:aR r=false)(z:Sep (tu t r.tl::O) H)(q:∀ d H',Sep (fR R d r::tu t r.tl::O) H'->Q (v4 d) H'):aa tab R k 97 [v4 t] H Q E:=by
 delta ip;cases r with
 |lg w=>
  cases w with
  |seek=>cases hb
  |mtch=>cases hb
  |copy=>
   right
   repeat walk_at "sc"
   exact vd z (λd dx H2 z2=>q d H2 (ve z2))
  |fill=>
   right
   repeat walk_at "sc"
   exact vd z (λd dx H2 z2=>q d H2 (ve z2))
  |shift=>
   right
   repeat walk_at "sc"
   exact vd z (λd dx H2 z2=>q d H2 (ve z2))
  |turn=>
   right
   repeat walk_at "sc"
   exact vd z (λd dx H2 z2=>q d H2 (ve z2))
 |hop n o=>
  right
  repeat walk_at "sc"
  intro d dx g1 g2 g3;exact F6 ro nofun ok.1.1 ok.1.2 ok.2 (gS z g1 g2 g3) (λH2 z2=>⟨rfl,q d H2 z2⟩)
 |sp s=>
  cases s with
  |set n i=>
   right
   repeat walk_at "sc"
   intro d dx g1 g2 g3;exact GQ ro nofun ok.1 ok.2 (gS z g1 g2 g3) (λH2 z2=>⟨rfl,q d H2 z2⟩)
  |add n i=>
   right
   repeat walk_at "sc"
   intro d dx g1 g2 g3;exact Gk ro nofun ok.1 ok.2 (gS z g1 g2 g3) (λH2 z2=>⟨rfl,q d H2 z2⟩)
  |take n m=>
   right
   repeat walk_at "sc"
   intro d dx g1 g2 g3;exact G5 ro nofun (gS z g1 g2 g3) (λH2 z2=>⟨rfl,q d H2 z2⟩)
  |read n=>cases hb
  |write n=>
   right
   repeat walk_at "sc"
   intro d dx g1 g2 g3;exact Ho ro nofun (gS z g1 g2 g3) (λH2 z2=>⟨rfl,q d H2 z2⟩)
def ja {O:List aj}:∀ {L:List aj},Sub O (L++O)
 | []=>.refl
 |_::_=>.drop ja
section
variable {h:Addr}{m sz:Int}
end
variable {L:List (Bx×List Int)}
def Tr.near (hb:∀ r ∈ rs,a6 r) (n60:N<=60) (hx:x.ok) (h:Tr rs (dA N) 0 x (dy N) L):∀ p ∈ L,p.2.length<=60/\∀ j ∈ p.2,j<0-> -1-j<(N:Int):=by
 have w60:(dA N).length<=60:=by rw[bH];exact n60
 have hl:(dy N).length=(dA N).length:=by rw[eA,bH]
 have h2:=Tr.map (f:=λj=>if j< -(N:Int) then 0 else j) (λj hj=>if_neg nofun) hb w60 h hx hl;have e0:(dy N).map (λj=>if j< -(N:Int) then 0 else j)=dy N:=by
  refine(List.map_congr_left (g:=id) λj hj=>?_).trans (List.map_id _);unfold dy at hj;obtain⟨i,hi,rfl⟩:=List.mem_map.mp hj;rw[mem_range]at hi;exact if_neg nofun
 rw[e0]at h2;have e1:=h.det h2;refine λp hp=>⟨Tr.all (P:=λp=>p.2.length<=60) hb w60 (λx cs _ e=>by dsimp only;omega) h hx hl p hp,λj hj hn=>?_⟩
 obtain⟨i,hi⟩:=getElem?_of_mem hp;have e2:(L.map (J3 λj=>if j< -(N:Int) then 0 else j))[i]? =some p:=by rw[<-e1];exact hi
 rw[io,hi]at e2;have e3:p.2.map (λj=>if j< -(N:Int) then 0 else j)=p.2:=congrArg Prod.snd (Option.some.inj e2);have e4:(if j< -(N:Int) then 0 else j)=j:=by
  obtain⟨n,hn⟩:=getElem?_of_mem hj;have e5:(p.2.map λj=>if j< -(N:Int) then 0 else j)[n]? =some j:=by rw[e3];exact hn
  rw[io,hn]at e5;exact Option.some.inj e5
 split at e4
 .omega
 .omega
def yk {j:Int}:∃ w i,vq j=[wl w,wf i]:=by
 unfold vq
 split<;>exact⟨_,_,rfl⟩
abbrev D7 (H:Hp)(p:Sh):Prop:=∃ b l vs,H p.1=some (wr [v4 b,v4 l])/\H b=some (wr (p.2.1.ls.map wf))/\H l=some (wp vs)/\vs.length=p.2.2.length/\∀ (i:Nat) v j,vs[i]? =some v->p.2.2[i]? =some j->vi v j H
def BR (z:Sep O H)(h:ae (jW p) O Δ):D7 H p:=by
 obtain⟨b,l,vs,z⟩:=Dv (z.pull h);have o:=cw.of (z.pull .k3);exact⟨b,l,vs,z.atT,z.fk .k1,z.get .k2,o.1,o.2⟩
abbrev nG (rs:List Rw)(ws:List Str):Nat->Int->Bx->List Int->Bx×List Int
 |0,_,x,cs=>(x,cs)
 |n+1,at_,x,cs=>nG rs ws n (mS rs at_ x cs ws).at_ (mS rs at_ x cs ws).x (mS rs at_ x cs ws).cs
section
variable {rs:List Rw}{ws:List Str}{at_:Int}{x:Bx}{cs:List Int}{L:List (Bx×List Int)}
def y9 (h:(mS rs at_ x cs ws).w≠"on"):(mS rs at_ x cs ws).at_=at_/\(mS rs at_ x cs ws).x=x/\(mS rs at_ x cs ws).cs=cs:=by
 unfold mS at h⊢;cases e:rs[at_.toNat]? with
 |none=>exact⟨rfl,rfl,rfl⟩
 |some r=>
  rw[e]at h;dsimp only at h⊢;cases ho:dz x cs ws r with
  |on n x' cs'=>rw[ho]at h;exact absurd rfl h
  |_=>exact⟨rfl,rfl,rfl⟩
def oz (h:(mS rs at_ x cs ws).w≠"on"):∀ n,nG rs ws n at_ x cs=(x,cs)
 |0=>rfl
 |n+1=>by
  obtain⟨e1,e2,e3⟩:=y9 h;show nG rs ws n _ _ _=_;rw[e1,e2,e3];exact oz h n
def Tr.it (h:Tr rs ws at_ x cs L):∀ b,L[min b (L.length-1)]? =some (nG rs ws b at_ x cs):=by
 induction h with
 |stop h=>intro b;rw[oz h];rw[show min b (([(_,_)]:List (Bx×List Int)).length-1)=0 by simp];rfl
 |on h t ih=>
  obtain⟨L',rfl⟩:=t.ne;intro b;cases b with
  |zero=>rw[Nat.zero_min];rfl
  |succ b=>
   rw[show min (b+1) ((_::_::L':List (Bx×List Int)).length-1)=min b ((_::L':List (Bx×List Int)).length-1)+1 by simp only[length_cons];omega,List.getElem?_cons_succ];exact ih b
end
def Bx.qF {y:Bx}(h:x.ls=y.ls):x=y:=by
 obtain⟨a,b,c,d,e,f⟩:=x;obtain⟨a',b',c',d',e',f'⟩:=y;simp only[Bx.ls,List.cons.injEq,and_true]at h;obtain⟨rfl,rfl,rfl,rfl,rfl,rfl⟩:=h
 rfl
def sJ {j:Int}(h:vq i=vq j):i=j:=by
 unfold vq at h
 split at h<;>split at h<;>simp only[List.cons.injEq,and_true,V.int.injEq,V.str.injEq]at h
 .omega
 .exact absurd h.1 (by decide+kernel)
 .exact absurd h.1 (by decide+kernel)
 .exact h.2
def tB {n:Nat}{P:Nat->Prop}{e:Nat->Bool}(h:∀ j,e j=true ↔ P j):(List.range n).all e=true ↔ ∀ j,j<n->P j:=by
 rw[all_eq_true];exact⟨λa j hj=>(h j).mp (a j (mem_range.mpr hj)),λa j hj=>(h j).mpr (a j (mem_range.mp hj))⟩
section
variable {a b:Addr}{xs ys:List V}{n:Nat}{P:Nat->Prop}
def FI (h1:H a=some (wp xs))(h2:H b=some (wp ys))(hl:xs.length=ys.length)(h:∀ (j:Nat) x y,xs[j]? =some x->ys[j]? =some y->∃ c,cg R.K H (n+1) x y c/\(c=true ↔ P j)):∃ c,cg R.K H (n+2) (v4 a) (v4 b) c/\(c=true ↔ ∀ j,j<xs.length->P j):=by
 classical
 refine⟨_,cg.ll (e:=λj=>decide (P j)) (ba.of h1) (ba.of h2) hl λj x y e1 e2=>?_,tB λj=>decide_eq_true_iff⟩;obtain⟨c,hc,hi⟩:=h j x y e1 e2;have:c=decide (P j):=by by_cases p:P j<;>simp_all
 exact this▸hc
def ya (h1:H a=some (wr xs))(h2:H b=some (wr ys))(hl:xs.length=ys.length)(h:∀ (j:Nat) x y,xs[j]? =some x->ys[j]? =some y->∃ c,cg R.K H (n+1) x y c/\(c=true ↔ P j)):∃ c,cg R.K H (n+2) (v4 a) (v4 b) c/\(c=true ↔ ∀ j,j<xs.length->P j):=by
 classical
 refine⟨_,cg.tt (e:=λj=>decide (P j)) (aX.of h1) (aX.of h2) λj x y e1 e2=>?_,?_⟩
 .obtain⟨c,hc,hi⟩:=h j x y e1 e2;have:c=decide (P j):=by by_cases p:P j<;>simp_all
  exact this▸hc
 .rw[<-hl,Nat.min_self,beq_self_eq_true,Bool.and_true];exact tB λj=>decide_eq_true_iff
def CO {j:Int}:∃ c,cg R.K H n (wf i) (wf j) c/\(c=true ↔ i=j):=⟨_,.flat rfl rfl,by show(i ==j)=true ↔ _;simp⟩
def Hb {i j:Str}:∃ c,cg R.K H n (wl i) (wl j) c/\(c=true ↔ i=j):=⟨_,.flat rfl rfl,by show(i ==j)=true ↔ _;simp⟩
end
def uc {as bs:List α}(hl:as.length=bs.length)(h:∀ j,j<as.length->as[j]? =bs[j]?):as=bs:=List.ext_getElem? λj=>by
 by_cases e:j<as.length
 .exact h j e
 .rw[getElem?_eq_none nofun,getElem?_eq_none nofun]
def Dd {b:Addr}{j:Int}{n:Nat}(h1:H a=some (wr (vq i)))(h2:H b=some (wr (vq j))):∃ c,cg R.K H (n+2) (v4 a) (v4 b) c/\(c=true ↔ i=j):=by
 obtain⟨w1,i1,e1⟩:=yk (j:=i);obtain⟨w2,i2,e2⟩:=yk (j:=j);have hi:i=j ↔ w1=w2/\i1=i2:=by
  refine⟨λh=>?_,λ⟨p,q⟩=>sJ ?_⟩
  .subst h;rw[e1]at e2;simp only[List.cons.injEq,and_true,V.int.injEq,V.str.injEq]at e2;exact e2
  .rw[e1,e2,p,q]
 rw[e1]at h1;rw[e2]at h2;obtain⟨c,hc,hh⟩:=ya (n:=n) (P:=λm=>([wl w1,wf i1])[m]? =([wl w2,wf i2])[m]?) h1 h2 rfl λm x y f1 f2=>by
  rcases m with _|_|m
  .cases f1;cases f2;obtain⟨c,hc,hh⟩:=Hb (H:=H) (R:=R) (n:=n+1) (i:=w1) (j:=w2);exact⟨c,hc,hh.trans ⟨λe=>by subst e;rfl,λe=>by have:wl w1=wl w2:=Option.some.inj e;exact V.str.inj this⟩⟩
  .cases f1;cases f2;obtain⟨c,hc,hh⟩:=CO (H:=H) (R:=R) (n:=n+1) (i:=i1) (j:=i2);exact⟨c,hc,hh.trans ⟨λe=>by subst e;rfl,λe=>by have:wf i1=wf i2:=Option.some.inj e;exact V.int.inj this⟩⟩
  .simp at f1
 refine⟨c,hc,hh.trans (Iff.trans ⟨λe=>?_,λ⟨p,q⟩=>?_⟩ hi.symm)⟩
 .have g0:wl w1=wl w2:=Option.some.inj (e 0 (by simp));have g1:wf i1=wf i2:=Option.some.inj (e 1 (by simp));exact⟨V.str.inj g0,V.int.inj g1⟩
 .subst p q;exact λ_ _=>rfl
def DW {q:Sh}(h1:D7 H p)(h2:D7 H q)(hl:p.2.2.length=q.2.2.length):∃ c,cg R.K H 4 (v4 p.1) (v4 q.1) c/\(c=true ↔ p.2=q.2):=by
 obtain⟨b1,l1,vs1,a1,a2,a3,a4,a5⟩:=h1;obtain⟨b2,l2,vs2,c1,c2,c3,c4,c5⟩:=h2;obtain⟨t1,x1,cs1⟩:=p;obtain⟨t2,x2,cs2⟩:=q;dsimp only at*;obtain⟨u,hu,eu⟩:=ya (R:=R) (n:=1) (P:=λm=>x1.ls[m]? =x2.ls[m]?) a2 c2 rfl λm x y f1 f2=>by
  rw[io]at f1 f2;obtain⟨i,g1,rfl⟩:=nb.mp f1;obtain⟨j,g2,rfl⟩:=nb.mp f2;obtain⟨c,hc,hh⟩:=CO (H:=H) (R:=R) (n:=2) (i:=i) (j:=j);exact⟨c,hc,by rw[g1,g2];exact hh.trans ⟨λe=>e▸rfl,λe=>Option.some.inj e⟩⟩
 obtain⟨v,hv,ev⟩:=FI (R:=R) (n:=1) (P:=λm=>cs1[m]? =cs2[m]?) a3 c3 nofun λm x y f1 f2=>by
  have hm:=(tz.mp f1).1;have g1:cs1[m]? =some (cs1[m]'nofun):=li _;have g2:cs2[m]? =some (cs2[m]'nofun):=li _;obtain⟨s1,rfl,k1⟩:=a5 m _ _ f1 g1;obtain⟨s2,rfl,k2⟩:=c5 m _ _ f2 g2;obtain⟨c,hc,hh⟩:=Dd (R:=R) (n:=0) k1 k2;exact⟨c,hc,by rw[g1,g2];exact hh.trans ⟨λe=>congrArg some e,λe=>Option.some.inj e⟩⟩
 obtain⟨c,hc,hh⟩:=ya (R:=R) (n:=2) (P:=λm=>(m=0->u=true)/\(m=1->v=true)) a1 c1 rfl λm x y f1 f2=>by
  rcases m with _|_|m
  .cases f1;cases f2;exact⟨u,hu,by simp⟩
  .cases f1;cases f2;exact⟨v,hv,by simp⟩
  .simp at f1
 refine⟨c,hc,hh.trans ⟨λe=>?_,λe=>?_⟩⟩
 .have g0:=eu.mp ((e 0 (by simp)).1 rfl);have g1:=ev.mp ((e 1 (by simp)).2 rfl);have e1:x1=x2:=Bx.qF (uc rfl λj hj=>g0 j (by rw[ci];exact hj));have e2:cs1=cs2:=uc hl λj hj=>g1 j nofun
  rw[e1,e2]
 .cases e;exact λj _=>⟨λ_=>eu.mpr λ_ _=>rfl,λ_=>ev.mpr λ_ _=>rfl⟩
def Ds {q:Sh}(h1:D7 H p)(h2:D7 H q)(e:p.1=q.1):p.2=q.2:=by
 obtain⟨b1,l1,vs1,a1,a2,a3,a4,a5⟩:=h1;obtain⟨b2,l2,vs2,c1,c2,c3,c4,c5⟩:=h2;rw[e,c1]at a1;cases a1;rw[c2]at a2;rw[c3]at a3;cases a3;have e1:p.2.1=q.2.1:=Bx.qF (by
  have:q.2.1.ls.map wf=p.2.1.ls.map wf:=HO.tup.inj (Option.some.inj a2);exact(List.map_inj_right (λ_ _ h=>V.int.inj h)).mp this.symm)
 have e2:p.2.2=q.2.2:=uc nofun λj hj=>by
  have g0:vs1[j]? =some (vs1[j]'nofun):=li _;have g1:p.2.2[j]? =some (p.2.2[j]'hj):=li _;have g2:q.2.2[j]? =some (q.2.2[j]'nofun):=li _;obtain⟨t,e1,k1⟩:=a5 j _ _ g0 g1;obtain⟨t2,e2,k2⟩:=c5 j _ _ g0 g2;rw[e1]at e2;cases e2;rw[k1]at k2;rw[g1,g2,sJ (HO.tup.inj (Option.some.inj k2))]
 exact Prod.ext e1 e2
def HL {q:Sh}(h1:D7 H p)(h2:D7 H q)(hl:p.2.2.length=q.2.2.length)(q0:p.2=q.2->Q (.bl false) H)(q1:p.2≠q.2->Q (.bl true) H):dw R.K true (v4 p.1) (v4 q.1) H Q:=by
 by_cases e:p.1=q.1
 .have:=q0 (Ds h1 h2 e);obtain⟨b1,l1,vs1,a1,_⟩:=h1;rw[<-e];exact ne_self (.inl ⟨_,aX.of a1⟩) this
 .obtain⟨c,hc,hh⟩:=DW (R:=R) h1 h2 hl;refine fL hc (by decide) e ?_;cases c with
  |true=>exact q0 (hh.mp rfl)
  |false=>exact q1 λh=>Bool.false_ne_true (hh.mpr h)
abbrev stK (N:Nat):Nat->List Int
 |0=>sK N 0
 |m+1=>(sK N 0).set (N-1-m) 1
def tR:(stK N k).length=N:=by cases k<;>simp[stK]
abbrev so (C c1 c2:List Int):Prop:=c1.map (ev C)≠c2.map (ev C)
abbrev p9 (H:Hp)(l:Addr)(cs:List Int):Prop:=∃ vs,H l=some (wp vs)/\vs.length=cs.length/\∀ (i:Nat) v j,vs[i]? =some v->cs[i]? =some j->vi v j H
section
variable {T t C l1 l2 b1 b2:Addr}{cs c1 c2:List Int}{j:Int}{S:List Sh}{x1 x2:Bx}{N:Nat}
def hG {b:Nat}(hk:1<=k)(e:H T=some (wp (S.map ql)))(hp:S[min b (S.length-1)]? =some p)(q:Q (v4 p.1) H):aa tab R k 78 [v4 T,wf (b:Int)] H Q E:=by
 delta hU;have h0:=(tz.mp hp).1;left;refine bR e ?_;rw[ci];left;refine vP rfl ?_;refine aP e (cR nofun ?_) q;rw[io,show(min (b:Int) ((S.length:Int)-1)).toNat=min b (S.length-1) by omega,hp]
 rfl
def f7 (hk:1<=k)(hj:j<0-> -1-j<cs.length)(e1:H t=some (wr (vq j)))(e2:H C=some (wp (cs.map wf)))(q:Q (wf (ev cs j)) H):aa tab R k 79 [v4 t,v4 C] H Q E:=by
 delta gy;unfold vq at e1;unfold ev at q
 by_cases h:j<0
 .rw[if_pos h]at e1 q;left;refine fK e1 rfl ?_;right
  repeat walk_at "sc"
  refine fK e1 rfl ?_;left;exact aP e2 (rV nofun (hj h)) q
 .rw[if_neg h]at e1 q;left;refine fK e1 rfl ?_;right
  repeat walk_at "sc"
  exact fK e1 rfl q
def pV (ro:Ro K R)(hk:1<=k)(z:Sep O H)(e1:H b1=some (wr (x1.ls.map wf)))(e2:H b2=some (wr (x2.ls.map wf)))(q0:x1=x2->∀ H',Sep O H'->Q wn H')
  (q1:∀ (j:Nat) nm,lq[j]? =some nm->x1.ls[j]? ≠x2.ls[j]? ->(∀ i,i<j->x1.ls[i]? =x2.ls[i]?)->∀ H',Sep O H'->Q (wl nm) H'):aa tab R k 80 [v4 b1,v4 b2] H Q E:=by
 delta il;obtain⟨a,hg,hS⟩:=ro.g_NAMES;rw[<-ro.hK]at hS;have z2:=Sep.Iu e1 (Sep.Iu e2 z);left;refine⟨rfl,?_⟩;left;simp only[hg];refine Jy (hS H) ?_;refine BA (xs:=lq.map wl) (λj U H=>∃ u v,U=[some (v4 b1),some (v4 b2),u,v]/\(∀ i,i<j->x1.ls[i]? =x2.ls[i]?)/\Sep (tu b1 (x1.ls.map wf)::tu b2 (x2.ls.map wf)::O) H) ⟨_,_,rfl,λi h=>absurd h (Nat.not_lt_zero _),z2⟩ (λj U H _=>hS H) ?_ ?_
 .rintro j y T U H hy ⟨u,v,rfl,hb,zz⟩ hT;rw[io]at hy;obtain⟨nm,hn,rfl⟩:=nb.mp hy;have hj:j<6:=(tz.mp hn).1;have zt:=zz.iK (xs:=[wf j,wl nm]) hT;generalize upd H T _=H2 at zt⊢;have g1:x1.ls[j]? =some (x1.ls[j]'hj):=li _;have g2:x2.ls[j]? =some (x2.ls[j]'hj):=li _;left;refine⟨T,_,rfl,.inl (aX.of zt.atT),rfl,?_⟩;left;refine fK (zt.fk .k1) (L2.cT (v:=wf (x1.ls[j]'hj)) (by rw[io,g1];rfl)) ?_;left;refine fK (zt.fk .k2) (L2.cT (v:=wf (x2.ls[j]'hj)) (by rw[io,g2];rfl)) ?_;right;refine bc (λh=>?_) (λh=>?_)
  .right;refine⟨_,_,rfl,λi hi=>?_,zt.drop⟩
   by_cases e:i=j
   .subst e;rw[g1,g2,h]
   .exact hb i nofun
  .right;exact q1 j nm hn (by rw[g1,g2];exact λe=>h (Option.some.inj e)) hb _ zt.drop.drop.drop
 .rintro U H ⟨u,v,rfl,hb,zz⟩;right;exact q0 (Bx.qF (uc rfl λj hj=>hb j hj)) H zz.drop.drop
def gw (hk:2<=k)(h60:cs.length<=60)(o1:p9 H l1 c1)(o2:p9 H l2 c2)(h1:c1.length=cs.length)(h2:c2.length=cs.length)(j1:∀ j ∈ c1,j<0-> -1-j<(cs.length:Int)) (j2:∀ j ∈ c2,j<0-> -1-j<(cs.length:Int)) (e:H C=some (wp (cs.map wf)))
  (q0:¬ so cs c1 c2->Q wn H) (q1:so cs c1 c2->∀ j:Nat,(c1.map (ev cs))[j]? ≠(c2.map (ev cs))[j]? ->(∀ i,i<j->(c1.map (ev cs))[i]? =(c2.map (ev cs))[i]?)->Q (wf (j:Int)) H):aa tab R k 81 [v4 l1,v4 l2,v4 C] H Q E:=by
 delta gb;obtain⟨vs1,a1,a2,a3⟩:=o1;obtain⟨vs2,d1,d2,d3⟩:=o2;left;refine⟨rfl,?_⟩;refine bR e ?_;rw[ci];refine⟨by omega,by omega,?_⟩;rw[sn];refine iX (n:=cs.length) (λj U H'=>∃ u,U=[some (v4 l1),some (v4 l2),some (v4 C),u]/\(∀ i,i<j->(c1.map (ev cs))[i]? =(c2.map (ev cs))[i]?)/\H'=H) ⟨_,rfl,λi h=>absurd h (Nat.not_lt_zero _),rfl⟩ ?_ ?_
 .rintro j U H' hj ⟨u,rfl,hb,rfl⟩;have g1:c1[j]? =some (c1[j]'nofun):=li _;have g2:c2[j]? =some (c2[j]'nofun):=li _;have f1:vs1[j]? =some (vs1[j]'nofun):=li _;have f2:vs2[j]? =some (vs2[j]'nofun):=li _;obtain⟨t1,u1,k1⟩:=a3 j _ _ f1 g1;obtain⟨t2,u2,k2⟩:=d3 j _ _ f2 g2;rw[u1]at f1;rw[u2]at f2;left;refine⟨rfl,?_⟩;refine aP a1 (pw f1) ?_;left;refine f7 nofun (j1 _ (db g1)) k1 e ?_;left;refine⟨rfl,?_⟩;refine aP d1 (pw f2) ?_;left;refine f7 nofun (j2 _ (db g2)) k2 e ?_;right;have m1:(c1.map (ev cs))[j]? =some (ev cs (c1[j]'nofun)):=by rw[io,g1];rfl
  have m2:(c2.map (ev cs))[j]? =some (ev cs (c2[j]'nofun)):=by rw[io,g2];rfl
  refine bc (λh=>?_) (λh=>?_)
  .left;refine⟨_,rfl,λi hi=>?_,rfl⟩
   by_cases e:i=j
   .subst e;rw[m1,m2,h]
   .exact hb i nofun
  .left;rw[Int.zero_add];have hne:(c1.map (ev cs))[j]? ≠(c2.map (ev cs))[j]? :=by rw[m1,m2];exact λe=>h (Option.some.inj e)
   exact q1 (λe=>hne (by rw[e])) j hne hb
 .rintro U H' ⟨u,rfl,hb,rfl⟩;left;refine q0 λhd=>hd (uc (by rw[ci,ci];omega) λj hj=>hb j ?_)
  rw[ci]at hj
  omega
noncomputable abbrev Ce:=Addr×List Int
abbrev zE (p:Ce):aj:=pt p.1 (wp (p.2.map wf))
abbrev B2 (p:Ce):V:=v4 p.1
def rep0:(sK n.toNat [wf 0]).flatten=(sK n.toNat (0:Int)).map wf:=by
 rw[List.map_replicate];generalize n.toNat=m
 induction m with
 |zero=>rfl
 |succ m ih=>rw[replicate_succ,flatten_cons,ih];rfl
def BI {c:Nat}(h:c<N):sK c (0:Int)++[1]++sK (N-c-1) 0=(sK N 0).set c 1:=by
 have e:sK N (0:Int)=sK c 0++0::sK (N-c-1) 0:=by
  rw[<-replicate_succ,List.replicate_append_replicate]
  congr 1
  omega
 rw[e,List.set_append_right _ _ (by simp)];simp
def xP (hk:1<=k)(n0:1<=N)(n60:N<=60)(z:Sep O H)(q:∀ T (A:List Ce) H',A.map (·.2)=(List.range (N+1)).map (stK N)->Sep (pt T (wp (A.map B2))::(A.reverse.map zE++O)) H'->Q (v4 T) H'):aa tab R k 82 [wf (N:Int)] H Q E:=by
 delta c7;right;rename_i l0 H0 z0 l1 H1 z1 T H2 z2;rw[rep0,sn]at z1 z2;have z3:Sep (pt T (wp [v4 l1])::pt l1 (wp ((sK N (0:Int)).map wf))::O) H2:=z2.sub (by ac_nf);have z3:Sep (pt T (wp [v4 l1])::zE (l1,stK N 0)::O) H2:=z3;clear z z0 z1 z2;rw[show((N:Int)-1- -1).toNat=N by omega];refine yt (n:=N) (λj U H=>∃ (A:List Ce) (u:Option V),U=[some (wf (N:Int)),some (v4 T),u]/\A.map (·.2)=(List.range (j+1)).map (stK N)/\Sep (pt T (wp (A.map B2))::(A.reverse.map zE++O)) H) ⟨[(l1,stK N 0)],_,rfl,rfl,z3⟩ ?_ ?_
 .rintro j U H hj ⟨A,u,rfl,hA,zz⟩;have hAl:A.length=j+1:=by have:=congrArg List.length hA;simpa using this
  clear z3;left;refine⟨T,_,rfl,zz.at,?_⟩;right;rename_i p1 H1 z1 p2 H2 z2 p3 H3 z3;rw[rep0]at z3;refine yq (ys:=[wf 1]) z3 (z3.get .k1) z3.at (by simp;omega) (λp4 H4 z4=>?_);clear z1 z2 z3 zz;right;rename_i p5 H5 z5 p6 H6 z6;rw[rep0]at z6;refine yq z6 (z6.get .k2) z6.at (by simp;omega) (λp7 H7 z7=>?_);clear z4 z5 z6;have ec:(sK ((N:Int)-1-(j:Int)).toNat (0:Int)).map wf++[wf 1]++(sK ((N:Int)-((N:Int)-1-(j:Int))-1).toNat (0:Int)).map wf=(stK N (j+1)).map wf:=by
   rw[show((N:Int)-1-(j:Int)).toNat=N-1-j by omega,show((N:Int)-((N:Int)-1-(j:Int))-1).toNat=N-(N-1-j)-1 by omega,show[wf 1]=[(1:Int)].map wf from rfl,<-f8,<-f8,BI nofun]
   rfl
  rw[ec]at z7;have z8:Sep (pt p7 (wp ((stK N (j+1)).map wf))::pt T (wp (A.map B2))::(A.reverse.map zE++O)) H7:=z7.sub (by ac_nf);clear z7;left;refine⟨_,z8.get .k1,Ca z8 .k1 (by rw[ci];omega) (λH8 z9=>?_)⟩;refine⟨A++[(p7,stK N (j+1))],_,rfl,by rw[f8,hA,show List.range (j+1+1)=List.range (j+1)++[j+1] from List.range_succ,f8];rfl,?_⟩;rw[reverse_append,f8,f8,le];show Sep (pt T (wp (A.map B2++[v4 p7]))::pt p7 (wp ((stK N (j+1)).map wf))::(A.reverse.map zE++O)) H8;exact z9.pull .k1
 .rintro U H ⟨A,u,rfl,hA,zz⟩;right;exact q T A H hA zz
end
@[irreducible] noncomputable def BS (I:Nat->Addr->List V->Hp->Prop) (j:Nat) (D:Addr):VK:=λv H4=>∃ zs,H4 D=some (wp zs)/\zs.length<PySem.sizeLine/\∃ ys2,I (j+1) D ys2 (upd H4 D (wp (zs++[v])))
def BS.mk {j:Nat}(h1:H3 D=some (wp ys))(hl:ys.length<=999)(h2:I (j+1) D (ys++[v]) (upd H3 D (wp (ys++[v])))):BS I j D v H3:=by
 unfold BS;exact⟨ys,h1,cH nofun,ys++[v],h2⟩
@[irreducible] noncomputable def xi (I:Nat->Addr->List V->Hp->Prop) (te:TE) (j:Nat) (D:Addr) (rest:St) (x:V):Bool->Hp->Prop:=λb H3=>(b=true->te (some x::rest) H3 λv H4=>BS I j D v H4)/\(b=false->∃ ys2,I (j+1) D ys2 H3)
def xi.t {j:Nat}{x:V}(e:c=true)(h:te (some x::rest) H3 λv H4=>BS I j D v H4):xi I te j D rest x c H3:=by
 unfold xi;exact⟨λ_=>h,λz=>(by rw[e]at z;cases z)⟩
def xi.f {j:Nat}{x:V}(e:c=false)(h:I (j+1) D ys H3):xi I te j D rest x c H3:=by
 unfold xi;exact⟨λz=>(by rw[e]at z;cases z),λ_=>⟨ys,h⟩⟩
def Bd {KK:W.Frag}{tc:TT}(I:Nat->Addr->List V->Hp->Prop)(hl:∀ j D ys H,I j D ys H->ba KK H a xs) (h0:∀ D,H D=none->I 0 D [] (upd H D (wp [])))
  (hs:∀ j D ys x H',xs[j]? =some x->I j D ys H'->tc (some x::rest) H' (xi I te j D rest x))
  (hd:∀ D ys H',I xs.length D ys H'->Q (v4 D) H'):Fc tc te (Fu KK a) (none::rest) H Q:=by
 unfold Fc;intro D hD;refine⟨λi m σ' H'=>m=xs.length-i/\i<=xs.length/\∃ ys x0,σ'=x0::rest/\I i D ys H',⟨xs.length,by simp,Nat.zero_le _,[],none,rfl,h0 D hD⟩,λi m σ' H' ⟨e,hi,ys,x0,e1,h⟩=>?_⟩;subst e1
 by_cases hlt:i<xs.length
 .refine .inr ⟨⟨xs,xs[i],hl i D ys H' h,li hlt⟩,λσ2 H2=>∃ ys2 x2,σ2=x2::rest/\I (i+1) D ys2 H2,λσ2 H2 ⟨ys2,x2,f1,f3⟩=>⟨xs.length-(i+1),by omega,rfl,hlt,ys2,x2,f1,f3⟩,λx H'' y=>?_⟩;obtain⟨e1,hy⟩:=y;subst e1;have z:=hs i D ys x H'' (hy xs (hl i D ys H'' h)) h;have e:xi I te i D rest x=λb H3=>(b=true->te (some x::rest) H3 λv H4=>∃ zs,H4 D=some (wp zs)/\zs.length<PySem.sizeLine/\∃ ys2 x2,some x::rest=x2::rest/\I (i+1) D ys2 (upd H4 D (wp (zs++[v]))))/\(b=false->∃ ys2 x2,some x::rest=x2::rest/\I (i+1) D ys2 H3):=by
   funext b H3
   unfold xi;have e2:(λv H4=>BS I i D v H4)=λv H4=>∃ zs,H4 D=some (wp zs)/\zs.length<PySem.sizeLine/\∃ ys2 x2,some x::rest=x2::rest/\I (i+1) D ys2 (upd H4 D (wp (zs++[v]))):=by
    funext v H4
    unfold BS;exact propext ⟨λ⟨zs,a,b,ys2,c⟩=>⟨zs,a,b,ys2,_,rfl,c⟩,λ⟨zs,a,b,ys2,_,_,c⟩=>⟨zs,a,b,ys2,c⟩⟩
   rw[e2];exact propext ⟨λ⟨p,q⟩=>⟨p,λz=>let⟨y,w⟩:=q z;⟨y,_,rfl,w⟩⟩,λ⟨p,q⟩=>⟨p,λz=>let⟨y,_,_,w⟩:=q z;⟨y,w⟩⟩⟩
  rw[e]at z;exact z
 .have:i=xs.length:=by omega
  subst this;exact .inl ⟨⟨xs,hl _ D ys H' h,re _⟩,hd D ys H' h⟩
def EF {c1 c2:List Int}(hl:c1.length=c2.length)(j1:∀ j ∈ c1,j<0-> -1-j<(N:Int)) (j2:∀ j ∈ c2,j<0-> -1-j<(N:Int)) (h:c1≠c2):∃ k,k<=N/\so (stK N k) c1 c2:=by
 obtain⟨i,hi,ne⟩:∃ i,i<c1.length/\c1[i]? ≠c2[i]? :=Classical.byContradiction λg=>h (uc hl λi hi=>Classical.byContradiction λe=>g ⟨i,hi,e⟩)
 have g1:c1[i]? =some (c1[i]'hi):=li _;have g2:c2[i]? =some (c2[i]'nofun):=li _;have a1:=j1 _ (db g1);have a2:=j2 _ (db g2);generalize c1[i]'hi=u at g1 a1;generalize c2[i]'nofun=v at g2 a2;rw[g1,g2]at ne;have ne:u≠v:=λe=>ne (by rw[e])
 have key:∀ k,ev (stK N k) u≠ev (stK N k) v->so (stK N k) c1 c2:=λk hk e=>by
  have e2:(c1.map (ev (stK N k)))[i]? =(c2.map (ev (stK N k)))[i]? :=by rw[e]
  rw[io,io,g1,g2]at e2;exact hk (Option.some.inj e2)
 have z0:∀ m,gt (stK N 0) m=0:=λm=>by
  unfold gt stK;rw[getElem?_replicate]
  split<;>rfl
 have one:∀ m:Nat,m<N->∀ n:Int,0<=n->gt (stK N (N-1-m+1)) n=if n=(m:Int) then 1 else 0:=λm hm n hn=>by
  show((sK N (0:Int)).set (N-1-(N-1-m)) 1)[n.toNat]?.getD 0=_;rw[show N-1-(N-1-m)=m by omega,List.getElem?_set]
  by_cases e:n=(m:Int)
  .rw[if_pos nofun,if_pos (by simpa using hm),if_pos e];rfl
  .rw[if_neg nofun,if_neg e,getElem?_replicate]
   split<;>rfl
 by_cases hu:u<0
 .by_cases hv:v<0
  .refine⟨N-1-(-1-u).toNat+1,by omega,key _ ?_⟩;unfold ev;rw[if_pos hu,if_pos hv,one _ nofun _ nofun,one _ nofun _ nofun,if_pos nofun,if_neg nofun]
   decide
  .by_cases e:v=0
   .refine⟨N-1-(-1-u).toNat+1,by omega,key _ ?_⟩;unfold ev;rw[if_pos hu,if_neg hv,one _ nofun _ nofun,if_pos nofun,e]
    decide
   .refine⟨0,Nat.zero_le _,key _ ?_⟩;unfold ev;rw[if_pos hu,if_neg hv,z0];exact λh=>e h.symm
 .by_cases hv:v<0
  .by_cases e:u=0
   .refine⟨N-1-(-1-v).toNat+1,by omega,key _ ?_⟩;unfold ev;rw[if_neg hu,if_pos hv,one _ nofun _ nofun,if_pos nofun,e]
    decide
   .refine⟨0,Nat.zero_le _,key _ ?_⟩;unfold ev;rw[if_neg hu,if_pos hv,z0];exact e
  .refine⟨0,Nat.zero_le _,key _ ?_⟩;unfold ev;rw[if_neg hu,if_neg hv];exact ne
def p9.of {cs:List Int}(z:Sep O H)(p1:ae (pt l (wp vs)) O Δ)(p2:ae (cw vs cs) O Δ'):p9 H l cs:=⟨vs,z.get p1,(cw.of (z.pull p2)).1,(cw.of (z.pull p2)).2⟩
section
variable {l1 l2:Addr}{c1 c2:List Int}{v1 v2:List V}{N:Nat}{Δ1 Δ2 Δ3 Δ4:List aj}
def AX (hk:3<=k)(n0:1<=N)(n60:N<=60)(h1:c1.length=N)(h2:c2.length=N)(j1:∀ j ∈ c1,j<0-> -1-j<(N:Int)) (j2:∀ j ∈ c2,j<0-> -1-j<(N:Int)) (hne:c1≠c2) (z:Sep O H) (p1:ae (pt l1 (wp v1)) O Δ1) (p2:ae (cw v1 c1) O Δ2) (p3:ae (pt l2 (wp v2)) O Δ3) (p4:ae (cw v2 c2) O Δ4)
  (q:∀ C k H',k<=N->so (stK N k) c1 c2->(∀ i,i<k->¬ so (stK N i) c1 c2)->Sep (pt C (wp ((stK N k).map wf))::O) H'->Q (v4 C) H'):aa tab R k 83 [v4 l1,v4 l2] H Q E:=by
 delta eU;have hv:=(cw.of (z.pull p2)).1;left;refine⟨rfl,?_⟩;left;refine⟨rfl,?_⟩;refine bR (z.get p1) ?_;rw[hv,h1];left;refine xP nofun n0 n60 z (λT A H1 hA z1=>?_);have hAl:A.length=N+1:=by have:=congrArg List.length hA;simpa using this
 have hAi:∀ (i:Nat) (a:Ce),A[i]? =some a->a.2=stK N i:=λi a e=>by
  have hi:=(tz.mp e).1;have e2:(A.map (·.2))[i]? =some a.2:=by rw[io,e];rfl
  rw[hA,io,List.getElem?_range nofun]at e2;exact(Option.some.inj e2).symm
 clear z;left;refine GS z1.at ?_;refine Bd (xs:=A.map B2) (λj D ys H=>ys.length<=j/\((ys=[]/\∀ i,i<j->¬ so (stK N i) c1 c2)\/∃ (m:Nat) (a:Ce),m<j/\A[m]? =some a/\so (stK N m) c1 c2/\(∀ i,i<m->¬ so (stK N i) c1 c2)/\ys[0]? =some (v4 a.1))/\Sep (pt D (wp ys)::pt T (wp (A.map B2))::(A.reverse.map zE++O)) H) (λj D ys H hI=>ba.of (hI.2.2.get .k1)) (λD hD=>⟨re _,.inl ⟨rfl,λi h=>absurd h (Nat.not_lt_zero _)⟩,z1.new (o:=wp []) hD⟩) (λj D ys y H hy hI=>?_) (λD ys H hI=>?_)
 .obtain⟨hyl,hc,zz⟩:=hI;have hjl:=(tz.mp hy).1;rw[ci]at hjl;rw[io]at hy;obtain⟨⟨a,st⟩,g,rfl⟩:=nb.mp hy;have es:st=stK N j:=hAi j _ g;subst es;obtain⟨Θ,f⟩:=b9 (f:=zE) (x:=(a,stK N j)) (l:=A.reverse) (by have:=db g;simpa using this);clear z1;left;refine⟨rfl,?_⟩;have hlen:(stK N j).length=N:=tR;refine gw (cs:=stK N j) (c1:=c1) (c2:=c2) nofun nofun (p9.of zz (.j2 (ak p1)) (.j2 (ak p2))) (p9.of zz (.j2 (ak p3)) (.j2 (ak p4))) nofun nofun (by rw[hlen];exact j1) (by rw[hlen];exact j2) (zz.get (o:=wp ((stK N j).map wf)) (.j2 (f O))) (λhd=>?_) (λhd m hm1 hm2=>?_)
  .left;refine i5 ?_;refine xi.f rfl ⟨by omega,?_,zz⟩;rcases hc with⟨e,hb⟩|⟨m,a',hm,g',d',hb,e⟩
   .refine .inl ⟨e,λi hi=>?_⟩
    by_cases h:i=j
    .subst h;exact hd
    .exact hb i nofun
   .exact .inr ⟨m,a',by omega,g',d',hb,e⟩
  .left;refine i5 ?_;refine xi.t rfl ?_;left;refine BS.mk zz.at nofun ⟨by rw[cr,ge];omega,?_,zz.set rfl⟩;rcases hc with⟨e,hb⟩|⟨m',a',hm,g',d',hb,e⟩
   .exact .inr ⟨j,_,Nat.lt_succ_self _,g,hd,hb,by rw[e];rfl⟩
   .refine .inr ⟨m',a',by omega,g',d',hb,?_⟩;have:=(tz.mp e).1;rw[getElem?_append_left this];exact e
 .obtain⟨hyl,hc,zz⟩:=hI;rw[ci]at hc;clear z1;obtain⟨m,a,hm,g,d,hb,e⟩:∃ (m:Nat) (a:Ce),m<A.length/\A[m]? =some a/\so (stK N m) c1 c2/\(∀ i,i<m->¬ so (stK N i) c1 c2)/\ys[0]? =some (v4 a.1):=by
   rcases hc with⟨_,hb⟩|h
   .obtain⟨k,hk,d⟩:=EF (N:=N) (h1.trans h2.symm) j1 j2 hne;exact absurd d (hb k nofun)
   .exact h
  have es:=hAi m a g;obtain⟨Θ,f⟩:=b9 (f:=zE) (x:=a) (l:=A.reverse) (by have:=db g;simpa using this);left;refine aP zz.at (L2.cT (j:=0) e) ?_;have z2:Sep (zE a::pt D (wp ys)::pt T (wp (A.map B2))::(Θ++O)) H:=zz.pull (.j2 (f O));obtain⟨a,st⟩:=a;have es:st=stK N m:=es;subst es;have z3:Sep (pt a (wp ((stK N m).map wf))::pt D (wp ys)::pt T (wp (A.map B2))::(Θ++O)) H:=z2;exact q a m H nofun d hb (z3.sub (.cons .e (.drop (.drop ja))))
end
def Tr.len (hb:∀ r ∈ rs,a6 r) (n60:N<=60) (hx:x.ok) (h:Tr rs (dA N) 0 x (dy N) L):∀ p ∈ L,p.2.length=N:=
 Tr.all (P:=λp=>p.2.length=N) hb (by rw[bH];exact n60) (λx cs _ e=>by dsimp only;rw[e,bH]) h hx (by rw[eA,bH])
def mL {O Γ':List aj}(h:Sub O Γ'):∀ {L:List aj},Sub O (L++Γ')
 | []=>h
 |_::_=>.drop (mL h)
def Sep.cut {A B:List aj}(z:Sep (A++(B++O)) H):Sep (A++O) H:=by
 induction B with
 |nil=>exact z
 |cons X B ih=>exact ih (z.pull (ak .e)).drop
inductive Al where
 |al
 |bx (b:Nat) (nm:Str)
 |ce (b k c:Nat)
abbrev Al.u:Al->List V
 | .al=>[]
 | .bx _ nm=>[wl "box",wl nm]
 | .ce _ _ c=>[wl "cell",wf (c:Int)]
abbrev Al.kk:Al->Nat
 | .ce _ k _=>k
 |_=>0
abbrev Al.b:Al->Nat
 | .ce b _ _=>b
 | .bx b _=>b
 | .al=>0
abbrev iZ (N:Nat)(t:Addr):Al->aj
 | .al=>pt t (wr [wl "alike"])
 |o=>bx λq:Addr×Addr=>[pt t (wr [wl "parted",wf (o.b:Int),v4 q.1,v4 q.2]),pt q.1 (wp ((stK N o.kk).map wf)),tu q.2 o.u]
abbrev jT (N:Nat)(s1 s2:Nat->Bx×List Int):Al->Prop
 | .al=>∀ b,s1 b=s2 b
 | .bx b nm=>(∀ i,i<b->s1 i=s2 i)/\∃ j:Nat,lq[j]? =some nm/\(s1 b).1.ls[j]? ≠(s2 b).1.ls[j]? /\∀ i,i<j->(s1 b).1.ls[i]? =(s2 b).1.ls[i]?
 | .ce b k c=>(∀ i,i<b->s1 i=s2 i)/\(s1 b).1=(s2 b).1/\so (stK N k) (s1 b).2 (s2 b).2/\(∀ i,i<k->¬ so (stK N i) (s1 b).2 (s2 b).2)/\((s1 b).2.map (ev (stK N k)))[c]? ≠((s2 b).2.map (ev (stK N k)))[c]? /\∀ i,i<c->((s1 b).2.map (ev (stK N k)))[i]? =((s2 b).2.map (ev (stK N k)))[i]?
section
variable {N:Nat}{s1 s2:Nat->Bx×List Int}
def gE {P:Nat->Prop}{i j:Nat}(h1:P i)(l1:∀ m,m<i->¬ P m) (h2:P j) (l2:∀ m,m<j->¬ P m):i=j:=by
 rcases Nat.lt_trichotomy i j with h|h|h
 .exact absurd h1 (l2 i h)
 .exact h
 .exact absurd h2 (l1 j h)
def jT.ne {o:Al}(h:jT N s1 s2 o)(ho:o≠.al):s1 o.b≠s2 o.b/\∀ m,m<o.b->¬ s1 m≠s2 m:=by
 cases o with
 |al=>exact absurd rfl ho
 |bx b nm=>obtain⟨h1,j,_,h2,_⟩:=h;exact⟨λe=>h2 (by show(s1 b).1.ls[j]? =_;rw[show s1 b=s2 b from e]),λm hm e=>e (h1 m hm)⟩
 |ce b k c=>obtain⟨h1,_,_,_,h2,_⟩:=h;exact⟨λe=>h2 (by rw[show s1 b=s2 b from e]),λm hm e=>e (h1 m hm)⟩
def jT.det {o o':Al}(h:jT N s1 s2 o)(h':jT N s1 s2 o'):o=o':=by
 by_cases ho:o=.al
 .subst ho
  by_cases ho':o'=.al
  .exact ho'.symm
  .exact absurd (h _) (h'.ne ho').1
 .by_cases ho':o'=.al
  .subst ho';exact absurd (h' _) (h.ne ho).1
  .have eb:o.b=o'.b:=gE (P:=λm=>s1 m≠s2 m) (h.ne ho).1 (h.ne ho).2 (h'.ne ho').1 (h'.ne ho').2;cases o with
   |al=>exact absurd rfl ho
   |bx b nm=>
    cases o' with
    |al=>exact absurd rfl ho'
    |bx b' nm'=>
     have eb:b=b':=eb;subst eb;obtain⟨_,j,e1,a1,a2⟩:=h;obtain⟨_,j',e2,d1,d2⟩:=h';have ej:j=j':=gE (P:=λm=>(s1 b).1.ls[m]? ≠(s2 b).1.ls[m]?) a1 (λm hm e=>e (a2 m hm)) d1 (λm hm e=>e (d2 m hm));subst ej;rw[e1]at e2;cases e2
     rfl
    |ce b' k' c'=>
     have eb:b=b':=eb;subst eb;obtain⟨_,j,_,a1,_⟩:=h;exact absurd (by rw[h'.2.1]) a1
   |ce b k c=>
    cases o' with
    |al=>exact absurd rfl ho'
    |bx b' nm'=>
     have eb:b=b':=eb;subst eb;obtain⟨_,j,_,a1,_⟩:=h';exact absurd (by rw[h.2.1]) a1
    |ce b' k' c'=>
     have eb:b=b':=eb;subst eb;obtain⟨_,_,a1,a2,a3,a4⟩:=h;obtain⟨_,_,d1,d2,d3,d4⟩:=h';have ek:k=k':=gE (P:=λm=>so (stK N m) (s1 b).2 (s2 b).2) a1 a2 d1 d2;subst ek;have ec:c=c':=gE (P:=λm=>((s1 b).2.map (ev (stK N k)))[m]? ≠((s2 b).2.map (ev (stK N k)))[m]?) a3 (λm hm e=>e (a4 m hm)) d3 (λm hm e=>e (d4 m hm));subst ec
     rfl
end
section
variable {N b:Nat}{t1 t2 b1 b2 l1 l2:Addr}{x1 x2:Bx}{c1 c2:List Int}{v1 v2:List V}{s1 s2:Nat->Bx×List Int}
noncomputable abbrev GY (t1 b1 l1 t2 b2 l2:Addr)(x1 x2:Bx)(v1 v2:List V)(c1 c2:List Int)(O:List aj):List aj:=tu t1 [v4 b1,v4 l1]::tu b1 (x1.ls.map wf)::pt l1 (wp v1)::cw v1 c1::tu t2 [v4 b2,v4 l2]::tu b2 (x2.ls.map wf)::pt l2 (wp v2)::cw v2 c2::O
def vN (ro:Ro K R)(hk:4<=k)(n0:1<=N)(n60:N<=60)(e1:s1 b=(x1,c1))(e2:s2 b=(x2,c2))(h1:c1.length=N)(h2:c2.length=N)(j1:∀ j ∈ c1,j<0-> -1-j<(N:Int)) (j2:∀ j ∈ c2,j<0-> -1-j<(N:Int)) (hb:∀ i,i<b->s1 i=s2 i) (hne:s1 b≠s2 b)
  (z:Sep (GY t1 b1 l1 t2 b2 l2 x1 x2 v1 v2 c1 c2 O) H) (q:∀ t o H',jT N s1 s2 o->Sep (iZ N t o::GY t1 b1 l1 t2 b2 l2 x1 x2 v1 v2 c1 c2 O) H'->Q (v4 t) H'):aa tab R k 84 [wf (b:Int),v4 t1,v4 t2] H Q E:=by
 delta oH;have hv:=(cw.of (z.pull .k3)).1;left;refine⟨rfl,?_⟩;refine fK z.atT rfl ?_;left;refine fK (z.fk (.t .k3)) rfl ?_;left;refine pV ro nofun z (z.fk .k1) (z.fk (.j2 .k3)) (λex H1 z1=>?_) (λj nm hn hj hi H1 z1=>?_)
 .have hc:c1≠c2:=λe=>hne (by rw[e1,e2,ex,e])
  clear z;left;refine i5 ?_;left;refine aO rfl ?_;left;refine⟨rfl,?_⟩;refine fK z1.atT rfl ?_;left;refine fK (z1.fk (.t .k3)) rfl ?_;left;refine AX (c1:=c1) (c2:=c2) nofun n0 n60 h1 h2 j1 j2 hc z1 .k2 .k3 (.j2 (.t .k3)) (.j2 (.j2 .k3)) (λC m H2 hm hd hl z2=>?_);clear z1;have hlen:(stK N m).length=N:=tR;left;refine⟨rfl,?_⟩;refine fK (z2.fk .k1) rfl ?_;left;refine fK (z2.fk (.j2 .k3)) rfl ?_;left;refine gw (cs:=stK N m) (c1:=c1) (c2:=c2) nofun nofun (p9.of z2 .k3 (.t .k3)) (p9.of z2 (.j2 (.j2 .k3)) (.j2 (.j2 (.t .k3)))) nofun nofun (by rw[hlen];exact j1) (by rw[hlen];exact j2) z2.at (λhd2=>absurd hd hd2) (λ_ c hc1 hc2=>?_);left;refine bq z2 (pc rfl) (λu H3 z3=>?_);left;refine bq z3.toT (pc rfl) (λt H4 z4=>?_);refine q t (.ce b m c) H4 ⟨hb,by rw[e1,e2];exact ex,by rw[e1,e2];exact hd,by rw[e1,e2];exact hl,by rw[e1,e2];exact hc1,by rw[e1,e2];exact hc2⟩ ?_;exact gP (C,u) (z4.sub (.cons .e (.cons .k1 (.cons .e .refl))))
 .clear z;left;refine i5 ?_;left;refine bj rfl ?_;left;refine mF z1 (pc rfl) (λl0 H2 z2=>?_);left;refine fK (z2.fk .k1) rfl ?_;left;refine bR (z2.get .k3) ?_;rw[hv,h1];left;refine Cv z2 z2.at nofun nofun (by decide) (λC H3 z3=>?_);rw[rep0,sn]at z3;left;refine bq z3 (pc rfl) (λu H4 z4=>?_);left;refine bq z4.toT (pc rfl) (λt H5 z5=>?_);refine q t (.bx b nm) H5 ⟨hb,j,hn,by rw[e1,e2];exact hj,by rw[e1,e2];exact hi⟩ ?_;exact gP (C,u) (z5.sub (.cons .e (.cons .k1 (.cons .e (.drop .refl)))))
end
section
variable {N:Nat}{L1 L2 B:Addr}{d1 d2:List V}{rs1 rs2:List Rw}{x:Bx}
def Bt (ro:Ro K R)(hk:13<=k)(n1:1<=rs1.length/\rs1.length<=24)(n2:1<=rs2.length/\rs2.length<=24)(ok1:∀ r ∈ rs1,r.ok) (ok2:∀ r ∈ rs2,r.ok) (hb1:rs1.any aR=false) (hb2:rs2.any aR=false) (hd1:cn R O d1 rs1) (hd2:cn R O d2 rs2) (s0:1<=N) (s60:N<=60) (z:Sep (pt L1 (wp d1)::pt L2 (wp d2)::ar R B x::O) H)
  (q:∀ t o H',jT N (λb=>nG rs1 (dA N) b 0 x (dy N)) (λb=>nG rs2 (dA N) b 0 x (dy N)) o->Sep (iZ N t o::pt L1 (wp d1)::pt L2 (wp d2)::ar R B x::O) H'->Q (v4 t) H'):aa tab R k 85 [v4 L1,v4 L2,v4 B,wf (N:Int)] H Q E:=by
 delta mR;have bl:∀ {rs:List Rw},rs.any aR=false->∀ r ∈ rs,a6 r:=λh r hr=>pQ (by
  have:=any_eq_false.mp h r hr;simpa using this)
 have hx:x.ok:=kN z .k2;left;refine⟨rfl,?_⟩;refine gL (N:=N) (rs:=rs1) (O:=pt L2 (wp d2)::O) ro nofun n1.1 n1.2 ok1 hb1 hd1.more s0 s60 (z.sub (by ac_nf)) (λT1 S1 H1 hS1 hT1 z1=>?_);clear z;left;refine⟨rfl,?_⟩;have z1a:=z1.pull (A:=pt L2 (wp d2)) (.j2 (.t (ak .e)));refine gL (N:=N) (rs:=rs2) (O:=pt T1 (wp (S1.map ql))::pt L1 (wp d1)::(S1.reverse.map jW++O)) ro nofun n2.1 n2.2 ok2 hb2 hd2.app.more.more s0 s60 (z1a.pull .k3 |>.pull .k1) (λT2 S2 H2 hS2 hT2 z2=>?_);clear z1 z1a;have it1:=hT1.it;have it2:=hT2.it;have near1:=Tr.near (bl hb1) s60 hx hT1;have near2:=Tr.near (bl hb2) s60 hx hT2;have len1:=Tr.len (bl hb1) s60 hx hT1;have len2:=Tr.len (bl hb2) s60 hx hT2;rw[ci]at it1 it2;have get:∀ {S:List Sh}{i:Nat}{y:Bx×List Int},(S.map (·.2))[i]? =some y->∃ p,S[i]? =some p/\p.2=y:=λ{S i y} h=>by
  rw[io]at h;exact nb.mp h
 left;refine⟨rfl,?_⟩;refine bR (z2.get (a:=T1) (o:=wp (S1.map ql)) (.j2 (.t (ak .e)))) ?_;left;refine bR z2.at ?_;rw[ci,ci];left;refine yG rfl ?_;refine⟨by omega,by omega,?_⟩;refine iX (n:=(max (S1.length:Int) (S2.length:Int)).toNat) (λj U H=>∃ u v w,U=[some (v4 L1),some (v4 L2),some (v4 B),some (wf (N:Int)),some (v4 T1),some (v4 T2),u,v,w]/\(∀ i,i<j->nG rs1 (dA N) i 0 x (dy N)=nG rs2 (dA N) i 0 x (dy N))/\Sep (pt T2 (wp (S2.map ql))::pt L2 (wp d2)::ar R B x::(S2.reverse.map jW++(pt T1 (wp (S1.map ql))::pt L1 (wp d1)::(S1.reverse.map jW++O)))) H) ⟨_,_,_,rfl,λi h=>absurd h (Nat.not_lt_zero _),z2⟩ ?_ ?_
 .rintro j U H hj ⟨u,v,w,rfl,hb,zz⟩;obtain⟨p1,g1,y1⟩:=get (it1 j);obtain⟨p2,g2,y2⟩:=get (it2 j);obtain⟨Θ1,f1⟩:=b9 (f:=jW) (x:=p1) (l:=S1.reverse) (by have:=db g1;simpa using this);obtain⟨Θ2,f2⟩:=b9 (f:=jW) (x:=p2) (l:=S2.reverse) (by have:=db g2;simpa using this);have m1:p1.2 ∈ S1.map (·.2):=List.mem_map.mpr ⟨p1,db g1,rfl⟩;have m2:p2.2 ∈ S2.map (·.2):=List.mem_map.mpr ⟨p2,db g2,rfl⟩;clear z2;have q1:ae (jW p1) (pt T2 (wp (S2.map ql))::pt L2 (wp d2)::ar R B x::(S2.reverse.map jW++(pt T1 (wp (S1.map ql))::pt L1 (wp d1)::(S1.reverse.map jW++O)))) _:=.t (.j2 (ak (.j2 (f1 O))));have q2:ae (jW p2) (pt T2 (wp (S2.map ql))::pt L2 (wp d2)::ar R B x::(S2.reverse.map jW++(pt T1 (wp (S1.map ql))::pt L1 (wp d1)::(S1.reverse.map jW++O)))) _:=.t (.j2 (f2 _));left;refine⟨rfl,?_⟩;rw[Int.zero_add];refine hG nofun (zz.get (a:=T1) (o:=wp (S1.map ql)) (.j2 (.t (ak .e)))) g1 ?_;left;refine⟨rfl,?_⟩;refine hG nofun zz.at g2 ?_;left;refine HL (BR zz q1) (BR zz q2) (by rw[len1 _ m1,len2 _ m2]) (λe=>?_) (λe=>?_)
  .left;refine aO rfl ?_;refine⟨_,_,_,rfl,λi hi=>?_,zz⟩
   by_cases h:i=j
   .subst h;rw[<-y1,<-y2,e]
   .exact hb i nofun
  .left;refine bj rfl ?_;left;refine⟨rfl,?_⟩;obtain⟨t1,x1,c1⟩:=p1;obtain⟨t2,x2,c2⟩:=p2;obtain⟨b2,l2,v2,w2⟩:=Dv (zz.pull q2);obtain⟨b1,l1,v1,w1⟩:=Dv (w2.pull (.j2 (.j2 (.j2 (.t (ak (.j2 (f1 O))))))));refine vN (s1:=λb=>nG rs1 (dA N) b 0 x (dy N)) (s2:=λb=>nG rs2 (dA N) b 0 x (dy N)) ro nofun s0 s60 y1.symm y2.symm (len1 _ m1) (len2 _ m2) (near1 _ m1).2 (near2 _ m2).2 hb (λe2=>e (y1.trans (e2.trans y2.symm))) w1 (λt o H3 ho z3=>q t o H3 ho ?_);have z4:=z3.sub (Γ':=iZ N t o::pt L2 (wp d2)::ar R B x::(Θ2++(pt T1 (wp (S1.map ql))::pt L1 (wp d1)::(Θ1++O)))) (.cons .e (.drop (.drop (.drop (.drop (.drop (.drop (.drop (.drop (.drop .refl))))))))));exact(z4.pull (A:=pt L1 (wp d1)) (.j2 (.t (ak .k1)))).sub (.cons .k1 (.cons .e (.cons .e (.cons .e (mL (.drop ja))))))
 .rintro U H ⟨u,v,w,rfl,hb,zz⟩;left;refine bq zz (pc rfl) (λt H3 z3=>q t .al H3 (λb=>?_) ?_)
  .by_cases h:b<max S1.length S2.length
   .exact hb b nofun
   .obtain⟨p1,g1,y1⟩:=get (it1 b);obtain⟨p2,g2,y2⟩:=get (it2 b);have l1:=(tz.mp g1).1;have e1:=it1 (max S1.length S2.length-1);have e2:=it2 (max S1.length S2.length-1);have hh:=hb (max S1.length S2.length-1) nofun;have k1:=it1 b;have k2:=it2 b;rw[show min b (S1.length-1)=min (max S1.length S2.length-1) (S1.length-1) by omega,e1]at k1;rw[show min b (S2.length-1)=min (max S1.length S2.length-1) (S2.length-1) by omega,e2]at k2;dsimp only;rw[<-Option.some.inj k1,<-Option.some.inj k2,hh]
  .exact(z3.pull (A:=pt L1 (wp d1)) (.j2 (.j2 (ak .k1)))).sub (.cons .k1 (.cons .e (.cons .k1 (.cons .k1 (.drop (mL (.drop ja)))))))
end
section
variable {h:Addr}{m:Int}
def xB (ro:Ro K R)(hk:5<=k)(hm:m<=1099510000000)(z:Sep (hand h m::O) H)(q:∀ d r H',Rw.ok r->aR r=true->Sep (fR R d r::hand h (m+1)::O) H'->Q (v4 d) H'):aa tab R k 99 [v4 h] H Q E:=by
 delta eZ;walk_at "gd";rename_i w H1 w0 w1 z1;clear z;refine aK (λe=>?_) (λe=>?_)
 .right;rename_i l H2 z2;obtain⟨b,e2⟩:=wa w0 e;refine aP (by grind) e2 ?_;left;intro d dx g1 g2 g3;refine GA (n:=b) ro nofun (gS z2 g1 g2 g3) (λH3 z3=>⟨rfl,q d (.sp (.read b)) H3 True.intro rfl ?_⟩);have z4:Sep (fR R d (.sp (.read b))::pt l (wp [wl "here",wl "there",wl "left",wl "way",wl "sign",wl "met"])::hand h (m+1)::O) H3:=z3;exact z4.sub (by ac_nf)
 .left;refine vd z1 (λd1 dx1 H2 z2=>?_);left;refine vd z2 (λd2 dx2 H3 z3=>?_);left;refine mF z3 (pc rfl) (λl H4 z4=>?_);rcases(by omega:w=6\/w=7) with rfl|rfl
  .right;have z5:Sep (pt d1 (wv (R.cad 18) dx1 [])::pt dx1 (.own d1)::hand h (m+1)::O) H4:=z4.sub (by ac_nf);exact q d1 (.lg .seek) H4 True.intro rfl (ve (c:=18) z5)
  .right;have z5:Sep (pt d2 (wv (R.cad 19) dx2 [])::pt dx2 (.own d2)::hand h (m+1)::O) H4:=z4.sub (by ac_nf);exact q d2 (.lg .mtch) H4 True.intro rfl (ve (c:=19) z5)
end
section
variable {L L1 L2 B h:Addr}{P P0 P1 P2:List (Addr×Rw)}{N j:Nat}{x:Bx}{m:Int}
abbrev dC (P:List (Addr×Rw)):Prop:=∀ p ∈ P,aR p.2=false
abbrev fD (P:List (Addr×Rw))(j:Nat):Prop:=(∃ p,P[j]? =some p/\aR p.2=true)/\∀ (i:Nat) p,i<j->P[i]? =some p->aR p.2=false
abbrev gj (P0 P:List (Addr×Rw))(f:Int):Prop:=(f= -1/\P=P0/\dC P0)\/∃ j:Nat,f=(j:Int)/\fD P j
abbrev bY (R:Rt)(O:List aj)(P:List (Addr×Rw)):Prop:=∀ p ∈ P,p.2.ok/\∃ Δ,ae (fR R p.1 p.2) O Δ
def bY.more (h:bY R O P):bY R (A::O) P:=λp hp=>let⟨o,_,pp⟩:=h p hp;⟨o,_,.t pp⟩
def bY.app {X:List aj}(h:bY R O P):bY R (X++O) P:=λp hp=>let⟨o,_,pp⟩:=h p hp;⟨o,_,ak pp⟩
def bY.rows (h:bY R O P):cn R O (P.map aw) (P.map (·.2)):=by
 refine⟨by rw[ci,ci],λi r e=>?_⟩;rw[io]at e;obtain⟨p,g,rfl⟩:=nb.mp e;obtain⟨_,Δ,pp⟩:=h p (db g);exact⟨p.1,Δ,by rw[io,g];rfl,pp⟩
def bY.IE (h:bY R O P):∀ r ∈ P.map (·.2),r.ok:=λr hr=>by
 obtain⟨p,hp,rfl⟩:=List.mem_map.mp hr;exact(h p hp).1
def dC.any (h:dC P):(P.map (·.2)).any aR=false:=by
 rw[any_eq_false];intro r hr;obtain⟨p,hp,rfl⟩:=List.mem_map.mp hr;rw[h p hp]
 decide
def ym (ro:Ro K R)(hk:6<=k)(n0:1<=P.length)(n1:P.length<=24)(hj:fD P j)(hd:bY R O P)(z:Sep O H)(pl:ae (pt L (wp (P.map aw))) O Δ)
  (q:∀ e H',Sep (i8 (R.cad 8) [("at",wf (j:Int))] e false::O) H'->E e H'):aa tab R k 77 [v4 L,v4 B,wf (N:Int)] H Q E:=by
 obtain⟨⟨p,hp,hl⟩,hb⟩:=hj;have hm:∀ {i:Nat}{r:Rw},(P.map (·.2))[i]? =some r->∃ p,P[i]? =some p/\p.2=r:=λ{i r} e=>by
  rw[io]at e;exact nb.mp e
 have hl0:(P.map aw).length=P.length:=ci ..;delta gK;right;refine cV ro nofun nofun nofun z pl hd.rows.all (λH1 z1=>?_);clear z;right;refine eL nofun hd.rows z1 pl (λhn=>?_) (λj' r' e' h' hb' e H3 z3=>?_)
 .have:=any_eq_false.mp hn p.2 (List.mem_map.mpr ⟨p,db hp,rfl⟩);rw[hl]at this;exact absurd rfl this
 .obtain⟨p',hp',rfl⟩:=hm e';have hjj:j'=j:=by
   rcases Nat.lt_trichotomy j' j with g|g|g
   .rw[hb j' p' g hp']at h';cases h'
   .exact g
   .rw[hb' j p.2 g (by rw[io,hp];rfl)]at hl;cases hl
  subst hjj;exact q e H3 z3
def sj {e:Addr}(hk:1<=k)(z:Sep (i8 (R.cad 8) [("at",wf (j:Int))] e false::O) H) (q:∀ t H',Sep (pt t (wr [wl "refused",wf (j:Int)])::O) H'->Q (v4 t) H'):aa tab R k (100+tab.fns.length) [v4 e] H Q E:=by
 obtain⟨ed,z1⟩:=kQ z;refine KJ (d:=d6) nofun rfl rfl ?_;right;rename_i t H1 z2;exact q t H1 (z2.sub (by ac_nf))
def D5 (ro:Ro K R)(hk:7<=k)(n0:1<=P.length)(n1:P.length<=24)(hj:fD P j)(hd:bY R O P)(z:Sep O H)(pl:ae (pt L (wp (P.map aw))) O Δ)
  (q:∀ t H',Sep (pt t (wr [wl "refused",wf (j:Int)])::O) H'->Q (v4 t) H'):aa tab R k 102 [v4 L,v4 B,wf (N:Int)] H Q E:=by
 delta dq;right;refine ym ro nofun n0 n1 hj hd z pl (λe H1 z1=>?_);obtain⟨ed,z2⟩:=kQ z1;left;refine⟨8,_,_,true,z2.at,rfl,rfl,?_⟩;right;refine⟨⟨_,_,_,z2.at⟩,?_⟩;exact sj nofun z1 q
def yI (ro:Ro K R)(hk:14<=k)(n1:1<=P1.length/\P1.length<=24)(n2:1<=P2.length/\P2.length<=24)(b1:dC P1)(b2:dC P2)(hd1:bY R O P1)(hd2:bY R O P2)(s0:1<=N)(s60:N<=60)(z:Sep (pt L1 (wp (P1.map aw))::pt L2 (wp (P2.map aw))::ar R B x::O) H)
  (q:∀ t t2 o H',jT N (λb=>nG (P1.map (·.2)) (dA N) b 0 x (dy N)) (λb=>nG (P2.map (·.2)) (dA N) b 0 x (dy N)) o->Sep (pt t (wr [wl "told",v4 t2])::iZ N t2 o::pt L1 (wp (P1.map aw))::pt L2 (wp (P2.map aw))::ar R B x::O) H'->Q (v4 t) H'):aa tab R k 101 [v4 L1,v4 L2,v4 B,wf (N:Int)] H Q E:=by
 delta cY;right;refine Bt (N:=N) ro nofun (by rw[ci];exact n1) (by rw[ci];exact n2) hd1.IE hd2.IE b1.any b2.any hd1.rows hd2.rows s0 s60 z (λt o H1 ho z1=>?_);right;rename_i t2 H2 z2;exact q t2 t o H2 ho z2
def Fq (ro:Ro K R)(hk:14<=k)(n1:1<=P1.length/\P1.length<=24)(n2:1<=P2.length/\P2.length<=24)(hf:fD P1 j\/dC P1/\fD P2 j)(hd1:bY R O P1)(hd2:bY R O P2)(s0:1<=N)(s60:N<=60)(z:Sep (pt L1 (wp (P1.map aw))::pt L2 (wp (P2.map aw))::ar R B x::O) H)
  (q:∀ t H',Sep (pt t (wr [wl "refused",wf (j:Int)])::pt L1 (wp (P1.map aw))::pt L2 (wp (P2.map aw))::ar R B x::O) H'->Q (v4 t) H'):aa tab R k 101 [v4 L1,v4 L2,v4 B,wf (N:Int)] H Q E:=by
 have fin:∀ {k:Nat}{e:Addr}{H:Hp}{E:XK},1<=k->Sep (i8 (R.cad 8) [("at",wf (j:Int))] e false::pt L1 (wp (P1.map aw))::pt L2 (wp (P2.map aw))::ar R B x::O) H->aa tab R k (100+tab.fns.length) [v4 e] H Q E:=λhk z=>sj hk z q
 delta cY;right;delta mR;right;rcases hf with hf|⟨hb,hf⟩
 .refine ym ro nofun n1.1 n1.2 hf hd1.more.more.more z .e (λe H1 z1=>?_);obtain⟨ed,z2⟩:=kQ z1;left;refine⟨8,_,_,true,z2.at,rfl,rfl,?_⟩;right;refine⟨⟨_,_,_,z2.at⟩,?_⟩;exact fin (k:=k-1) nofun z1
 .refine gL (N:=N) (rs:=P1.map (·.2)) (O:=pt L2 (wp (P2.map aw))::O) ro nofun (by rw[ci];exact n1.1) (by rw[ci];exact n1.2) hd1.IE hb.any hd1.rows.more s0 s60 (z.sub (by ac_nf)) (λT1 S1 H1 hS1 hT1 z1=>?_);right;have z1':Sep (pt L1 (wp (P1.map aw))::ar R B x::pt L2 (wp (P2.map aw))::O) H1:=Sep.cut (A:=[_,_]) (B:=S1.reverse.map jW) z1.drop;have z2:Sep (pt L1 (wp (P1.map aw))::pt L2 (wp (P2.map aw))::ar R B x::O) H1:=z1'.sub (by ac_nf);refine ym ro nofun n2.1 n2.2 hf hd2.more.more.more z2 .k1 (λe H3 z3=>?_);obtain⟨ed,z4⟩:=kQ z3;left;refine⟨8,_,_,true,z4.at,rfl,rfl,?_⟩;right;refine⟨⟨_,_,_,z4.at⟩,?_⟩;exact fin (k:=k-1) nofun z3
end
def C3 {y:V}(s:Sep O H)(r:aI (pt a (wp xs)) (pt a (wp (xs.take i.toNat++y::xs.drop i.toNat))) O Γ')(h0:0<=i)(h1:i<=xs.length)(hl:xs.length<=10000)(h:∀ H',Sep Γ' H'->Q wn H'):CW .insert a xs [wf i,y] H Q:=by unfold CW;exact⟨i,y,rfl,h0,h1,hl,h _ (s.put r rfl)⟩
section
variable {L h:Addr}{P0 P:List (Addr×Rw)}{p:Addr×Rw}{a j:Nat}{f m tm:Int}
abbrev fN (P:List (Addr×Rw))(a:Nat)(p:Addr×Rw):List (Addr×Rw):=P.take a++p::P.drop a
def xT:(fN P a p).map aw=(P.map aw).take a++aw p::(P.map aw).drop a:=by
 unfold fN;rw[f8,map_cons,List.map_take,List.map_drop]
def lO {i:Nat}(ha:a<=P.length)(hi:i<a):(fN P a p)[i]? =P[i]? :=by
 unfold fN;rw[getElem?_append_left (by rw[dl];omega),List.getElem?_take,if_pos hi]
def Am (ha:a<=P.length):(fN P a p)[a]? =some p:=by
 unfold fN;rw[getElem?_append_right (by rw[dl];omega),dl,Nat.min_eq_left ha,Nat.sub_self]
 rfl
def jV (ha:a<=P.length):(fN P a p).length=P.length+1:=by
 unfold fN;rw[cr,length_cons,dl,jp]
 omega
def xO (ha:a<=P.length)(hp:aR p.2=true)(h:gj P0 P f)(hc:f<0\/(a:Int)<=f):gj P0 (fN P a p) (a:Int):=by
 refine .inr ⟨a,rfl,⟨p,Am ha,hp⟩,λi q hi e=>?_⟩;rw[lO ha hi]at e;rcases h with⟨_,rfl,hb⟩|⟨j,rfl,_,hb⟩
 .exact hb q (db e)
 .exact hb i q nofun e
def Dh (ha:a<=P.length)(h:gj P0 P f)(h0:0<=f)(h1:f<a):gj P0 (fN P a p) f:=by
 rcases h with⟨rfl,_,_⟩|⟨j,rfl,⟨q,hq,hl⟩,hb⟩
 .omega
 .refine .inr ⟨j,rfl,⟨q,by rw[lO ha nofun];exact hq,hl⟩,λi q hi e=>?_⟩;rw[lO ha nofun]at e;exact hb i q hi e
def kJ (ro:Ro K R)(hk:6<=k)(hm:m<=1099500000000)(n1:P0.length<=24)(t0:0<=tm)(t1:tm<=2)(hb:dC P0)(z:Sep (hand h m::O) H)(pl:ae (pt L (wp (P0.map aw))) O Δ)
  (q:∀ t W P f Y H',P.length<=P0.length+2->P0.length<=P.length->gj P0 P f->(∀ Θ,bY R Θ P0->bY R (Y++Θ) P)->Sep (tu t [v4 W,wf f]::pt W (wp (P.map aw))::hand h (m+4)::(Y++O)) H'->Q (v4 t) H'):aa tab R k 103 [v4 h,v4 L,wf tm] H Q E:=by
 delta fc;left;refine eC z (z.get (.t pl)) (λW H1 z1=>?_);right;have z2:Sep (pt W (wp (P0.map aw))::hand h (m+2*((0:Nat):Int))::([]++O)) H1:=(ah (n:=m+2*((0:Nat):Int)) (z1.pull .k1) nofun).pull .k1;refine iX (λj U H=>∃ (P:List (Addr×Rw)) (f:Int) (Y:List aj) (u4 u5:Option V),U=[some (v4 h),some (v4 W),some (wf tm),some (wf f),u4,u5]/\P.length=P0.length+j/\gj P0 P f/\(∀ Θ,bY R Θ P0->bY R (Y++Θ) P)/\Sep (pt W (wp (P.map aw))::hand h (m+2*(j:Int))::(Y++O)) H) ⟨P0,-1,[],_,_,rfl,rfl,.inl ⟨rfl,rfl,hb⟩,λ_ h=>h,z2⟩ (λj U H hj hI=>?_) (λU H hI=>?_)
 .obtain⟨P,f,Y,u4,u5,rfl,hl,hf,hg,z3⟩:=hI;clear z z1 z2;walk_at "gd";rename_i r H2 r0 r1 z4;rw[ci]at r1;obtain⟨a,rfl⟩:=sw r0;have ha:a<=P.length:=by omega
  clear z3;refine⟨_,_,rfl,z4.get .k1,?_⟩;right;refine xB ro nofun nofun (z4.sub (Γ':=hand h (m+2*(j:Int)+1)::pt W (wp (P.map aw))::(Y++O)) (by ac_nf)) (λd r H3 ok hr z5=>?_);have z6:Sep (pt W (wp (P.map aw))::hand h (m+2*((j+1:Nat):Int))::fR R d r::(Y++O)) H3:=(ah (n:=m+2*((j+1:Nat):Int)) (z5.pull (A:=hand h _) .k1) nofun).sub (by ac_nf);clear z4 z5;refine⟨_,z6.at,?_⟩;refine C3 z6 .e r0 (by rw[ci];omega) (by rw[ci];omega) (λH4 z7=>?_);rw[sn,show v4 d=aw (d,r) from rfl,<-xT]at z7;have hg2:∀ Θ,bY R Θ P0->bY R ((fR R d r::Y)++Θ) (fN P a (d,r)):=λΘ h0 p hp=>by
   unfold fN at hp;rcases mem_append.mp hp with hp|hp
   .exact(hg Θ h0).more p (List.mem_of_mem_take hp)
   .rcases lw.mp hp with rfl|hp
    .exact⟨ok,_,.e⟩
    .exact(hg Θ h0).more p (List.mem_of_mem_drop hp)
  right;refine aK (p:=f<0) (λe=>?_) (λe=>?_)
  .right;exact⟨fN P a (d,r),_,fR R d r::Y,_,_,rfl,by rw[jV ha];omega,xO ha hr hf (.inl e),hg2,z7⟩
  .right;refine aK (p:=(a:Int)<=f) (λe2=>?_) (λe2=>?_)
   .right;exact⟨fN P a (d,r),_,fR R d r::Y,_,_,rfl,by rw[jV ha];omega,xO ha hr hf (.inr e2),hg2,z7⟩
   .right;exact⟨fN P a (d,r),_,fR R d r::Y,_,_,rfl,by rw[jV ha];omega,Dh ha hf nofun nofun,hg2,z7⟩
 .obtain⟨P,f,Y,u4,u5,rfl,hl,hf,hg,z3⟩:=hI;left;refine bq z3 (pc rfl) (λt H5 z8=>?_);exact q t W P f Y H5 nofun nofun hf hg ((ah (n:=m+4) (z8.toT.pull (A:=hand h _) .k2) nofun).sub (by ac_nf))
end
abbrev EU:j9->j9
 | .cons (.for _ _ b) _=>b
 |_=>.nil
def wF {t1 t2:Addr}{o:Al}{Δ1 Δ2:List aj}(z:Sep O H)(p1:ae (iZ N t1 o) O Δ1)(p2:ae (iZ N t2 o) Δ1 Δ2):t1≠t2/\cg K H 3 (v4 t1) (v4 t2) true:=by
 have z1:=(z.pull p1).pull (.t p2);have flat:∀ {v:List V}{n:Nat}{a b:Addr},(∀ y ∈ v,∃ s,tyName y H=some s)->H a=some (wr v)->H b=some (wr v)->cg K H (n+2) (v4 a) (v4 b) true:=λ{v n a b} hv h1 h2=>gR h1 h2 rfl λj x y f1 f2=>by
  rw[f1]at f2;cases f2;obtain⟨s,h⟩:=hv x (db f1);exact aY h
 have fin:∀ (b k:Nat) (v:List V),(∀ y ∈ v,∃ s,tyName y H=some s)->Sep ((bx λq:Addr×Addr=>[pt t2 (wr [wl "parted",wf (b:Int),v4 q.1,v4 q.2]),pt q.1 (wp ((stK N k).map wf)),tu q.2 v])::(bx λq:Addr×Addr=>[pt t1 (wr [wl "parted",wf (b:Int),v4 q.1,v4 q.2]),pt q.1 (wp ((stK N k).map wf)),tu q.2 v])::Δ2) H->t1≠t2/\cg K H 3 (v4 t1) (v4 t2) true:=λb k v hv z1=>by
  obtain⟨⟨C2,u2⟩,y2⟩:=iS z1;obtain⟨⟨C1,u1⟩,y1⟩:=iS (y2.pull .k3);have y:Sep (pt t1 (wr [wl "parted",wf (b:Int),v4 C1,v4 u1])::pt C1 (wp ((stK N k).map wf))::tu u1 v::pt t2 (wr [wl "parted",wf (b:Int),v4 C2,v4 u2])::pt C2 (wp ((stK N k).map wf))::tu u2 v::Δ2) H:=y1;refine⟨Sep.ne (y.sub (Γ':=pt t1 (wr [wl "parted",wf (b:Int),v4 C1,v4 u1])::pt t2 (wr [wl "parted",wf (b:Int),v4 C2,v4 u2])::[]) (.cons .e (.cons .k2 .nil))),gR (n:=1) y.at (y.get .k3) rfl λj x z f1 f2=>?_⟩;rcases j with _|_|_|_|j
  .cases f1;cases f2;exact aY (t:="str") rfl
  .cases f1;cases f2;exact aY (t:="int") rfl
  .cases f1;cases f2;exact xQ (n:=0) (y.get .k1) (y.get (.t .k3)) λx hx=>by
    obtain⟨i,_,rfl⟩:=List.mem_map.mp hx;exact⟨"int",rfl⟩
  .cases f1;cases f2;exact flat (n:=0) hv (y.fk .k2) (y.fk (.j2 .k3))
  .simp at f1
 cases o with
 |al=>
  have z2:Sep (pt t2 (wr [wl "alike"])::pt t1 (wr [wl "alike"])::Δ2) H:=z1;exact⟨λe=>Sep.ne z2 e.symm,flat (n:=1) (λy hy=>⟨"str",by rw[mem_singleton.mp hy];rfl⟩) (z2.get .k1) z2.at⟩
 |bx b nm=>exact fin b 0 _ (λy hy=>by
   rcases lw.mp hy with rfl|hy
   .exact⟨_,rfl⟩
   .rw[mem_singleton.mp hy];exact⟨_,rfl⟩) z1
 |ce b k c=>exact fin b k _ (λy hy=>by
   rcases lw.mp hy with rfl|hy
   .exact⟨_,rfl⟩
   .rw[mem_singleton.mp hy];exact⟨_,rfl⟩) z1
variable {f:Int}
section
variable {a h TL d LL La Lb B tA t2 W1 W2 T HD:Addr}{n f1 f2 w N':Int}{N j:Nat}{x:Bx}{P1 P2 Q1 Q2:List (Addr×Rw)}{o:Al}{Θ Δ:List aj}{D:Ends}{E:St->XK}{dv:V}{u0 u1 u2 u3 u13 u14 u15:Option V}
abbrev AZ (R:Rt)(P1 P2:List (Addr×Rw))(B tA t2:Addr)(x:Bx)(N:Nat)(o:Al)(Θ:List aj)(dv:V):Prop:=∀ (k:Nat) (A1 A2:Addr) (H:Hp) (Q:VK) (E:XK) (X:List aj),14<=k->Sep (pt A1 (wp (P1.map aw))::pt A2 (wp (P2.map aw))::ar R B x::pt tA (wr [wl "told",v4 t2])::iZ N t2 o::(X++Θ)) H->
 (∀ t H',(∀ (Q2:VK),Q2 (.bl false) H'->dw R.K true (v4 t) dv H' Q2)->Sep (pt A1 (wp (P1.map aw))::pt A2 (wp (P2.map aw))::ar R B x::pt tA (wr [wl "told",v4 t2])::iZ N t2 o::(X++Θ)) H'->Q (v4 t) H')->aa tab R k 101 [v4 A1,v4 A2,v4 B,wf (N:Int)] H Q E
def pf {t t' s s':Addr}(e1:H t=some (wr [wl "told",v4 s])) (e2:H t'=some (wr [wl "told",v4 s'])) (h:cg R.K H 3 (v4 s) (v4 s') true):cg R.K H 4 (v4 t) (v4 t') true:=
 gR e1 e2 rfl λj x y q1 q2=>by
  match j,q1,q2 with
  |0,q1,q2=>cases q1;cases q2;exact aY (t:="str") rfl
  |1,q1,q2=>cases q1;cases q2;exact h
def Bh {t t':Addr}(e1:H t=some (wr [wl "refused",wf (j:Int)])) (e2:H t'=some (wr [wl "refused",wf (j:Int)])):cg R.K H 2 (v4 t) (v4 t') true:=
 gR e1 e2 rfl λi x y q1 q2=>by
  match i,q1,q2 with
  |0,q1,q2=>cases q1;cases q2;exact aY (t:="str") rfl
  |1,q1,q2=>cases q1;cases q2;exact aY (t:="int") rfl
def uH (ro:Ro K R)(n1:1<=P1.length/\P1.length<=24)(n2:1<=P2.length/\P2.length<=24)(b1:dC P1)(b2:dC P2)(hd1:bY R Θ P1)(hd2:bY R Θ P2)(s0:1<=N)(s60:N<=60)(ho:jT N (λb=>nG (P1.map (·.2)) (dA N) b 0 x (dy N)) (λb=>nG (P2.map (·.2)) (dA N) b 0 x (dy N)) o):AZ R P1 P2 B tA t2 x N o Θ (v4 tA):=λk A1 A2 H Q E X hk z q=>by
 refine yI ro hk n1 n2 b1 b2 hd1.app.more.more hd2.app.more.more s0 s60 z (λt t3 o2 H1 ho2 z1=>?_);obtain rfl:=ho.det ho2;obtain⟨hne,he⟩:=wF (K:=R.K) z1 .k1 (.j2 (.j2 .k1));exact q t H1 (λQ2 q2=>fL (pf z1.at (z1.get (.t (.j2 (.j2 .e)))) he) (by decide) (Sep.ne (z1.pull (A:=pt tA (wr [wl "told",v4 t2])) (.t (.j2 (.j2 .e))))).symm q2) z1.drop.drop
def jh (ro:Ro K R)(n1:1<=P1.length/\P1.length<=24)(n2:1<=P2.length/\P2.length<=24)(hf:fD P1 j\/dC P1/\fD P2 j)(hd1:bY R Θ P1)(hd2:bY R Θ P2)(s0:1<=N)(s60:N<=60)(pT:ae (pt T (wr [wl "refused",wf (j:Int)])) Θ Δ):AZ R P1 P2 B tA t2 x N o Θ (v4 T):=λk A1 A2 H Q E X hk z q=>by
 refine Fq ro hk n1 n2 hf hd1.app.more.more hd2.app.more.more s0 s60 z (λt H1 z1=>?_);have p:ae (pt T (wr [wl "refused",wf (j:Int)])) (pt t (wr [wl "refused",wf (j:Int)])::pt A1 (wp (P1.map aw))::pt A2 (wp (P2.map aw))::ar R B x::pt tA (wr [wl "told",v4 t2])::iZ N t2 o::(X++Θ)) _:=.t (.j2 (.j2 (.t (ak pT))));exact q t H1 (λQ2 q2=>fL (Bh z1.at (z1.get p)) (by decide) (Sep.ne (z1.pull p)).symm q2) z1.drop
noncomputable abbrev mM (R:Rt)(P1 P2 Q1 Q2:List (Addr×Rw))(A1 A2 B tA t2 HD W1 W2 La Lb LL d:Addr)(x:Bx)(N:Nat)(o:Al)(Θ:List aj):List aj:=pt A1 (wp (Q1.map aw))::pt A2 (wp (Q2.map aw))::ar R B x::pt tA (wr [wl "told",v4 t2])::iZ N t2 o::pt HD (wp [v4 A1,v4 A2])::pt W1 (wp (Q1.map aw))::pt W2 (wp (Q2.map aw))::pt La (wp (P1.map aw))::pt Lb (wp (P2.map aw))::pt LL (wp [v4 La,v4 Lb])::aM d x::Θ
noncomputable abbrev qY (u0 u1 u2 u3:Option V)(N:Nat)(d LL B tA W1 W2 HD:Addr)(f1 f2:Int)(dv:V)(u15:Option V):St:=[u0,u1,u2,u3,some (wf (N:Int)),some (v4 d),some (v4 LL),some (v4 B),some (v4 tA),some (v4 W1),some (wf f1),some (v4 W2),some (wf f2),some dv,some (v4 HD),u15]
def ye {b:Addr}{P:List (Addr×Rw)}(e1:H a=some (wp (P.map aw)))(e2:H b=some (wp (P.map aw))):cg R.K H 2 (v4 a) (v4 b) true:=
 wL (n:=0) e1 e2 rfl λj x y q1 q2=>by
  rw[q1]at q2;cases q2;obtain⟨p,_,rfl⟩:=List.mem_map.mp (db q1);exact .same _
def GZ {A1 A2:Addr}(ro:Ro K R)(hk:15<=k)(z:Sep (mM R P1 P2 Q1 Q2 A1 A2 B tA t2 HD W1 W2 La Lb LL d x N o Θ) H)(q:∀ H',Sep (mM R P1 P2 Q1 Q2 A1 A2 B tA t2 HD W1 W2 La Lb LL d x N o Θ) H'->D.nx (qY u0 u1 u2 u3 N d LL B tA W1 W2 HD f1 f2 dv u15) H'):
  wB (eW 3 (EU (eW 14 fS.body))) ⟨tab,R,aa tab R (k-1),.calm⟩ D E (qY u0 u1 u2 u3 N d LL B tA W1 W2 HD f1 f2 dv u15) H:=by
 right;rename_i LN H1 z1;refine fL (wL (n:=1) (z1.get (.j2 (.j2 (.j2 .e)))) z1.at rfl (λi a b e1 e2=>?_)) (by decide) (Sep.ne (z1.pull (A:=pt HD (wp [v4 A1,v4 A2])) (.j2 (.j2 (.j2 .e))))) ?_
 .match i,e1,e2 with
  |0,e1,e2=>cases e1;cases e2;exact ye (z1.get .k1) (z1.get (.t (.j2 (.j2 (.j2 .e)))))
  |1,e1,e2=>cases e1;cases e2;exact ye (z1.get .k2) (z1.get (.j2 (.j2 (.j2 (.j2 .e)))))
 refine aO rfl ?_;left;refine⟨rfl,?_⟩;left;refine ag (aW (x:=x)) z1 .k3 rfl rfl ?_;left;refine lG (x:=x) ro nofun z1 .k3 (λt1 H2 z2=>?_);left;refine⟨rfl,?_⟩;refine vH (tp:=true) (kvs:=tN.zip (x.ls.map wf)) z2 (z2.get (.t (.j2 (.j2 (.j2 (.j2 (.j2 (.j2 .e)))))))) (λt2 H3 g z3=>?_);have hne:=vA z2 .e g;have z4:=zH z3;left;refine fL (Fg (z4.fk .k1) z4.atT) (by decide) hne ?_;refine aO rfl ?_;exact q H3 z4.drop.drop.drop
def BY {L:Addr}{P:List (Addr×Rw)}{E:XK}(ro:Ro K R)(hk:7<=k)(h0:0<=f)(hf:f= -1\/∃ j:Nat,f=(j:Int)/\fD P j) (hl:1<=P.length/\P.length<=24) (hg:bY R O P) (z:Sep O H) (pl:ae (pt L (wp (P.map aw))) O Δ) (q:∀ t H',Sep (pt t (wr [wl "refused",wf f])::O) H'->Q (v4 t) H'):aa tab R k 102 [v4 L,v4 B,wf (N:Int)] H Q E:=by
 rcases hf with rfl|⟨j,rfl,hj⟩
 .omega
 .exact D5 ro hk hl.1 hl.2 hj hg z pl q
def Ke {t t':Addr}(e1:H t=some (wr [wl "refused",wf f])) (e2:H t'=some (wr [wl "refused",wf f])):cg R.K H 2 (v4 t) (v4 t') true:=
 gR e1 e2 rfl λi x y q1 q2=>by
  match i,q1,q2 with
  |0,q1,q2=>cases q1;cases q2;exact aY (t:="str") rfl
  |1,q1,q2=>cases q1;cases q2;exact aY (t:="int") rfl
def GB {A1 A2:Addr}(ro:Ro K R)(hk:15<=k)(l2:1<=Q2.length/\Q2.length<=24)(g2:bY R Θ Q2)(ef2:f2= -1\/∃ j:Nat,f2=(j:Int)/\fD Q2 j) (z:Sep (mM R P1 P2 Q1 Q2 A1 A2 B tA t2 HD W1 W2 La Lb LL d x N o Θ) H) (q:∀ H',Sep (mM R P1 P2 Q1 Q2 A1 A2 B tA t2 HD W1 W2 La Lb LL d x N o Θ) H'->D.nx (qY u0 u1 u2 u3 N d LL B tA W1 W2 HD f1 f2 dv u15) H'):
  wB (eW 2 (EU (eW 14 fS.body))) ⟨tab,R,aa tab R (k-1),.calm⟩ D E (qY u0 u1 u2 u3 N d LL B tA W1 W2 HD f1 f2 dv u15) H:=by
 left;refine aK (p:=0<=f2) (λe=>?_) (λe=>aO rfl (GZ ro hk z q));left;refine⟨rfl,?_⟩;refine aP (z.get (.t (.j2 (.j2 .e)))) rfl ?_;left;refine BY (k:=k-1) (P:=Q2) ro nofun e ef2 l2 (bY.app (X:=[_,_,_,_,_,_,_,_,_,_,_,_]) g2) z .k1 (λt H1 z1=>?_);right;rename_i T H2 z2;refine fL (Ke (z2.get .k1) z2.at) (by decide) (Sep.ne (z2.pull (A:=pt t (wr [wl "refused",wf f2])) .k1)) ?_;refine aO rfl ?_;exact GZ ro hk z2.drop.drop q
def II {A1 A2:Addr}(ro:Ro K R)(hk:15<=k)(ask:AZ R Q1 Q2 B tA t2 x N o Θ dv)(l1:1<=Q1.length/\Q1.length<=24)(g1:bY R Θ Q1)(ef1:f1= -1\/∃ j:Nat,f1=(j:Int)/\fD Q1 j) (l2:1<=Q2.length/\Q2.length<=24) (g2:bY R Θ Q2) (ef2:f2= -1\/∃ j:Nat,f2=(j:Int)/\fD Q2 j) (z:Sep (mM R P1 P2 Q1 Q2 A1 A2 B tA t2 HD W1 W2 La Lb LL d x N o Θ) H) (q:∀ H',Sep (mM R P1 P2 Q1 Q2 A1 A2 B tA t2 HD W1 W2 La Lb LL d x N o Θ) H'->D.nx (qY u0 u1 u2 u3 N d LL B tA W1 W2 HD f1 f2 dv u15) H'):
  wB (EU (eW 14 fS.body)) ⟨tab,R,aa tab R (k-1),.calm⟩ D E (qY u0 u1 u2 u3 N d LL B tA W1 W2 HD f1 f2 dv u15) H:=by
 left;refine fK (z.get .k3) rfl ?_;left;refine rX rfl rfl ?_;refine aO (by rw[jD rfl];rfl) ?_;left;refine⟨rfl,?_⟩;refine aP (z.get (.t (.j2 (.j2 .e)))) rfl ?_;left;refine aP (z.get (.t (.j2 (.j2 .e)))) rfl ?_;left;refine ask _ A1 A2 H _ _ [_,_,_,_,_,_,_] nofun z (λt H4 e4 z6=>?_);left;refine e4 _ ?_;clear z;have z7:Sep (mM R P1 P2 Q1 Q2 A1 A2 B tA t2 HD W1 W2 La Lb LL d x N o Θ) H4:=z6;refine aO rfl ?_;left;refine aK (p:=0<=f1) (λe=>?_) (λe=>aO rfl (GB ro hk l2 g2 ef2 z7 q));left;refine⟨rfl,?_⟩;refine aP (z7.get (.t (.j2 (.j2 .e)))) rfl ?_;left;refine BY (k:=k-1) (P:=Q1) ro nofun e ef1 l1 (bY.app (X:=[_,_,_,_,_,_,_,_,_,_,_,_]) g1) z7 .e (λt H1 z1=>?_);right;rename_i T H2 z2;refine fL (Ke (z2.get .k1) z2.at) (by decide) (Sep.ne (z2.pull (A:=pt t (wr [wl "refused",wf f1])) .k1)) ?_;refine aO rfl ?_;exact GB ro hk l2 g2 ef2 z2.drop.drop q
def ml (ro:Ro K R)(hk:15<=k)(s0:1<=N)(s60:N<=60)(ask:AZ R Q1 Q2 B tA t2 x N o Θ dv)(l1:1<=Q1.length/\Q1.length<=24)(l2:1<=Q2.length/\Q2.length<=24)(g1:bY R Θ Q1)(g2:bY R Θ Q2)(ef1:f1= -1\/∃ j:Nat,f1=(j:Int)/\fD Q1 j) (ef2:f2= -1\/∃ j:Nat,f2=(j:Int)/\fD Q2 j)
  (n1:1<=P1.length/\P1.length<=24) (n2:1<=P2.length/\P2.length<=24) (b1:dC P1) (b2:dC P2) (hd1:bY R Θ P1) (hd2:bY R Θ P2) (ho:jT N (λb=>nG (P1.map (·.2)) (dA N) b 0 x (dy N)) (λb=>nG (P2.map (·.2)) (dA N) b 0 x (dy N)) o)
  (z:Sep (pt W1 (wp (Q1.map aw))::pt W2 (wp (Q2.map aw))::ar R B x::pt tA (wr [wl "told",v4 t2])::iZ N t2 o::pt La (wp (P1.map aw))::pt Lb (wp (P2.map aw))::pt LL (wp [v4 La,v4 Lb])::aM d x::Θ) H) (q:∀ H',D.rt (.bl true) H'):
  wB (eW 13 fS.body) ⟨tab,R,aa tab R (k-1),.calm⟩ D E [u0,u1,u2,u3,some (wf (N:Int)),some (v4 d),some (v4 LL),some (v4 B),some (v4 tA),some (v4 W1),some (wf f1),some (v4 W2),some (wf f2),some dv,u14,u15] H:=by
 left;refine eC z (z.get .e) (λA1 H1 z1=>?_);left;refine eC z1 (z1.get .k2) (λA2 H2 z2=>?_);right;rename_i HD H3 z3;have z4:Sep (mM R P1 P2 Q1 Q2 A1 A2 B tA t2 HD W1 W2 La Lb LL d x N o Θ) H3:=z3.sub (by ac_nf);clear z z1 z2 z3;refine iX (n:=2) (λj U H=>∃ u15,U=qY u0 u1 u2 u3 N d LL B tA W1 W2 HD f1 f2 dv u15/\Sep (mM R P1 P2 Q1 Q2 A1 A2 B tA t2 HD W1 W2 La Lb LL d x N o Θ) H) ⟨_,rfl,z4⟩ (λj U H hj hI=>?_) (λU H hI=>?_)
 .obtain⟨u15,rfl,z5⟩:=hI;exact II (u15:=some (wf (0+(j:Int)))) ro hk ask l1 g1 ef1 l2 g2 ef2 z5 (λH' z'=>⟨_,rfl,z'⟩)
 .obtain⟨u15,rfl,z5⟩:=hI;left;refine⟨rfl,?_⟩;refine aP (z5.get (.j2 (.j2 (.j2 (.j2 (.j2 .e)))))) rfl ?_;left;refine aP (z5.get (.j2 (.j2 (.j2 (.j2 (.j2 .e)))))) rfl ?_;left;have z5':Sep (pt A1 (wp (Q1.map aw))::pt A2 (wp (Q2.map aw))::ar R B x::pt tA (wr [wl "told",v4 t2])::iZ N t2 o::pt HD (wp [v4 A1,v4 A2])::pt W1 (wp (Q1.map aw))::pt W2 (wp (Q2.map aw))::pt La (wp (P1.map aw))::pt Lb (wp (P2.map aw))::pt LL (wp [v4 La,v4 Lb])::aM d x::Θ) H:=z5;have z6:Sep (pt La (wp (P1.map aw))::pt Lb (wp (P2.map aw))::ar R B x::pt tA (wr [wl "told",v4 t2])::iZ N t2 o::Θ) H:=z5'.sub (by ac_nf);refine yI ro nofun n1 n2 b1 b2 hd1.more.more hd2.more.more s0 s60 z6 (λt t3 o2 H1 ho2 z1=>?_);obtain rfl:=ho.det ho2;obtain⟨hne,he⟩:=wF (K:=R.K) z1 .k1 (.j2 (.j2 .k1));left;refine Ey (pf z1.at (z1.get (.t (.j2 (.j2 .e)))) he) (by decide) (Sep.ne (z1.pull (A:=pt tA (wr [wl "told",v4 t2])) (.t (.j2 (.j2 .e))))).symm ?_;exact q H1
end
section
variable {a h TL d LL La Lb B tA t2 W1 W2 T HD:Addr}{n f1 f2 w a1 a2:Int}{N j:Nat}{x:Bx}{P1 P2 Q1 Q2:List (Addr×Rw)}{o:Al}{Θ Δ:List aj}{D:Ends}{E:St->XK}{dv:V}{u0 u1 u2 u3 u8 u9 u10 u11 u12 u13 u14 u15:Option V}
def gj.pos (h:gj P1 Q1 f)(h0:0<=f):∃ j:Nat,f=(j:Int)/\fD Q1 j:=by
 rcases h with⟨rfl,_⟩|h
 .omega
 .exact h
def gj.neg (h:gj P1 Q1 f)(h0:¬ 0<=f):f= -1/\Q1=P1/\dC P1:=by
 rcases h with h|⟨j,rfl,_⟩
 .exact h
 .omega
def gj.or (h:gj P1 Q1 f):f= -1\/∃ j:Nat,f=(j:Int)/\fD Q1 j:=h.imp (λh=>h.1) λh=>h
def FR (ro:Ro K R)(hk:15<=k)(s0:1<=N)(s60:N<=60)(l1:1<=Q1.length/\Q1.length<=24)(l2:1<=Q2.length/\Q2.length<=24)(g1:bY R Θ Q1)(g2:bY R Θ Q2)(ef1:gj P1 Q1 f1)(ef2:gj P2 Q2 f2)
  (n1:1<=P1.length/\P1.length<=24) (n2:1<=P2.length/\P2.length<=24) (b1:dC P1) (b2:dC P2) (hd1:bY R Θ P1) (hd2:bY R Θ P2) (ho:jT N (λb=>nG (P1.map (·.2)) (dA N) b 0 x (dy N)) (λb=>nG (P2.map (·.2)) (dA N) b 0 x (dy N)) o)
  (z:Sep (pt W1 (wp (Q1.map aw))::pt W2 (wp (Q2.map aw))::ar R B x::pt tA (wr [wl "told",v4 t2])::iZ N t2 o::pt La (wp (P1.map aw))::pt Lb (wp (P2.map aw))::pt LL (wp [v4 La,v4 Lb])::aM d x::Θ) H) (q:∀ H',D.rt (.bl true) H'):
  wB (eW 10 fS.body) ⟨tab,R,aa tab R (k-1),.calm⟩ D E [u0,u1,u2,u3,some (wf (N:Int)),some (v4 d),some (v4 LL),some (v4 B),some (v4 tA),some (v4 W1),some (wf f1),some (v4 W2),some (wf f2),u13,u14,u15] H:=by
 left;refine aK (p:=0<=f2) (λe2=>?_) (λe2=>?_)
 .obtain⟨j2,rfl,k2⟩:=ef2.pos e2;left;refine bq z (pc rfl) (λT2 H1 z1=>?_);left;refine aK (p:=0<=f1) (λe1=>?_) (λe1=>?_)
  .obtain⟨j1,rfl,k1⟩:=ef1.pos e1;left;refine bq z1 (pc rfl) (λT1 H2 z2=>?_);have z3:Sep (pt W1 (wp (Q1.map aw))::pt W2 (wp (Q2.map aw))::ar R B x::pt tA (wr [wl "told",v4 t2])::iZ N t2 o::pt La (wp (P1.map aw))::pt Lb (wp (P2.map aw))::pt LL (wp [v4 La,v4 Lb])::aM d x::pt T1 (wr [wl "refused",wf (j1:Int)])::Θ) H2:=z2.sub (by ac_nf);exact ml (k:=k) (Θ:=pt T1 (wr [wl "refused",wf (j1:Int)])::Θ) ro hk s0 s60 (jh ro l1 l2 (.inl k1) g1.more g2.more s0 s60 .e) l1 l2 g1.more g2.more ef1.or ef2.or n1 n2 b1 b2 hd1.more hd2.more ho z3 q
  .obtain⟨rfl,rfl,_⟩:=ef1.neg e1;have z3:Sep (pt W1 (wp (Q1.map aw))::pt W2 (wp (Q2.map aw))::ar R B x::pt tA (wr [wl "told",v4 t2])::iZ N t2 o::pt La (wp (Q1.map aw))::pt Lb (wp (P2.map aw))::pt LL (wp [v4 La,v4 Lb])::aM d x::pt T2 (wr [wl "refused",wf (j2:Int)])::Θ) H1:=z1.sub (by ac_nf);exact ml (k:=k) (Θ:=pt T2 (wr [wl "refused",wf (j2:Int)])::Θ) ro hk s0 s60 (jh ro l1 l2 (.inr ⟨b1,k2⟩) g1.more g2.more s0 s60 .e) l1 l2 g1.more g2.more ef1.or ef2.or n1 n2 b1 b2 hd1.more hd2.more ho z3 q
 .obtain⟨rfl,rfl,_⟩:=ef2.neg e2;left;refine aK (p:=0<=f1) (λe1=>?_) (λe1=>?_)
  .obtain⟨j1,rfl,k1⟩:=ef1.pos e1;left;refine bq z (pc rfl) (λT1 H2 z2=>?_);have z3:Sep (pt W1 (wp (Q1.map aw))::pt W2 (wp (Q2.map aw))::ar R B x::pt tA (wr [wl "told",v4 t2])::iZ N t2 o::pt La (wp (P1.map aw))::pt Lb (wp (Q2.map aw))::pt LL (wp [v4 La,v4 Lb])::aM d x::pt T1 (wr [wl "refused",wf (j1:Int)])::Θ) H2:=z2.sub (by ac_nf);exact ml (k:=k) (Θ:=pt T1 (wr [wl "refused",wf (j1:Int)])::Θ) ro hk s0 s60 (jh ro l1 l2 (.inl k1) g1.more g2.more s0 s60 .e) l1 l2 g1.more g2.more ef1.or ef2.or n1 n2 b1 b2 hd1.more hd2.more ho z3 q
  .obtain⟨rfl,rfl,_⟩:=ef1.neg e1;exact ml (k:=k) (Θ:=Θ) ro hk s0 s60 (uH ro l1 l2 b1 b2 g1 g2 s0 s60 ho) l1 l2 g1 g2 ef1.or ef2.or n1 n2 b1 b2 hd1 hd2 ho z q
def CU (ro:Ro K R)(hk:15<=k)(hn:n<=1099400000000)(s0:1<=N)(s60:N<=60)(a10:0<=a1)(a11:a1<=2)(a20:0<=a2)(a21:a2<=2)(w0:0<=w)(w1:w<4)(n1:1<=P1.length/\P1.length<=20)(n2:1<=P2.length/\P2.length<=20)(b1:dC P1)(b2:dC P2)(hd1:bY R O P1)(hd2:bY R O P2)
  (z:Sep (pt La (wp (P1.map aw))::pt Lb (wp (P2.map aw))::ar R B x::hand h n::pt LL (wp [v4 La,v4 Lb])::pt TL (wp [wf a1,wf a2])::aM d x::O) H) (q:∀ H',D.rt (.bl true) H'):
  wB (eW 7 fS.body) ⟨tab,R,aa tab R (k-1),.calm⟩ D E [u0,some (v4 h),some (wf w),some (v4 TL),some (wf (N:Int)),some (v4 d),some (v4 LL),some (v4 B),u8,u9,u10,u11,u12,u13,u14,u15] H:=by
 have m1:1<=P1.length/\P1.length<=24:=⟨n1.1,by omega⟩;have m2:1<=P2.length/\P2.length<=24:=⟨n2.1,by omega⟩;left;refine⟨rfl,?_⟩;refine aP (z.get (.j2 (.j2 .e))) rfl ?_;left;refine aP (z.get (.j2 (.j2 .e))) rfl ?_;left;refine yI (k:=k-1) ro nofun m1 m2 b1 b2 hd1.more.more.more.more hd2.more.more.more.more s0 s60 z (λtA t2 o H1 ho z1=>?_);clear z;left;refine⟨rfl,?_⟩;left;refine⟨rfl,?_⟩;refine aP (z1.get (.j2 (.j2 (.j2 .e)))) rfl ?_;left;refine aP (z1.get (.t (.j2 (.j2 (.j2 .e))))) rfl ?_;left;refine⟨by decide,?_⟩;left;have t10:0<=a1*(w % 2)/\a1*(w % 2)<=2:=by
  rcases(by omega:w % 2=0\/w % 2=1) with e|e<;>rw[e]<;>omega
 have t20:0<=a2*(w / 2)/\a2*(w / 2)<=2:=by
  rcases(by omega:w / 2=0\/w / 2=1) with e|e<;>rw[e]<;>omega
 refine⟨by rcases(by omega:w % 2=0\/w % 2=1) with e|e<;>rw[e]<;>unfold pk<;>omega,?_⟩;refine kJ (k:=k-1) (m:=n) (O:=pt tA (wr [wl "told",v4 t2])::iZ N t2 o::pt La (wp (P1.map aw))::pt Lb (wp (P2.map aw))::ar R B x::pt LL (wp [v4 La,v4 Lb])::pt TL (wp [wf a1,wf a2])::aM d x::O) ro nofun nofun nofun t10.1 t10.2 b1 (z1.sub (by ac_nf)) .k2 (λt W1 Q1 f1 Y1 H2 e1 e1' ef1 g1 z2=>?_);clear z1;left;refine⟨t,_,rfl,.inl (aX.of z2.atT),rfl,?_⟩;left;refine⟨rfl,?_⟩;left;refine⟨rfl,?_⟩;have z3:Sep (hand h (n+4)::pt W1 (wp (Q1.map aw))::(Y1++(pt tA (wr [wl "told",v4 t2])::iZ N t2 o::pt La (wp (P1.map aw))::pt Lb (wp (P2.map aw))::ar R B x::pt LL (wp [v4 La,v4 Lb])::pt TL (wp [wf a1,wf a2])::aM d x::O))) H2:=z2.drop.pull .k1;have z4:Sep (hand h (n+4)::pt W1 (wp (Q1.map aw))::pt tA (wr [wl "told",v4 t2])::iZ N t2 o::pt La (wp (P1.map aw))::pt Lb (wp (P2.map aw))::ar R B x::pt LL (wp [v4 La,v4 Lb])::pt TL (wp [wf a1,wf a2])::aM d x::(Y1++O)) H2:=Sep.mv (P:=[_,_]) (L:=[_,_,_,_,_,_,_,_]) (Δ:=Y1) (O:=O) z3;clear z2 z3;have g1':bY R (Y1++O) Q1:=g1 _ hd1;have hd1':bY R (Y1++O) P1:=hd1.app;have hd2':bY R (Y1++O) P2:=hd2.app;clear g1 hd1 hd2;generalize Y1++O=Γ1 at z4 g1' hd1' hd2';refine aP (z4.get (.t (.j2 (.j2 (.j2 .e))))) rfl ?_;left;refine aP (z4.get (.j2 (.j2 (.j2 (.j2 .e))))) rfl ?_;left;refine⟨by decide,?_⟩;left;refine⟨by rcases(by omega:w / 2=0\/w / 2=1) with e|e<;>rw[e]<;>unfold pk<;>omega,?_⟩;refine kJ (k:=k-1) (m:=n+4) (O:=pt W1 (wp (Q1.map aw))::pt tA (wr [wl "told",v4 t2])::iZ N t2 o::pt La (wp (P1.map aw))::pt Lb (wp (P2.map aw))::ar R B x::pt LL (wp [v4 La,v4 Lb])::pt TL (wp [wf a1,wf a2])::aM d x::Γ1) ro nofun nofun nofun t20.1 t20.2 b2 z4 (.j2 (.j2 .e)) (λt W2 Q2 f2 Y2 H3 e2 e2' ef2 g2 z5=>?_);clear z4;left;refine⟨t,_,rfl,.inl (aX.of z5.atT),rfl,?_⟩;have z6:Sep (pt W2 (wp (Q2.map aw))::(Y2++(pt W1 (wp (Q1.map aw))::pt tA (wr [wl "told",v4 t2])::iZ N t2 o::pt La (wp (P1.map aw))::pt Lb (wp (P2.map aw))::ar R B x::pt LL (wp [v4 La,v4 Lb])::pt TL (wp [wf a1,wf a2])::aM d x::Γ1))) H3:=(z5.drop.pull .k1).drop;have z7:Sep (pt W2 (wp (Q2.map aw))::pt W1 (wp (Q1.map aw))::pt tA (wr [wl "told",v4 t2])::iZ N t2 o::pt La (wp (P1.map aw))::pt Lb (wp (P2.map aw))::ar R B x::pt LL (wp [v4 La,v4 Lb])::pt TL (wp [wf a1,wf a2])::aM d x::(Y2++Γ1)) H3:=Sep.mv (P:=[_]) (L:=[_,_,_,_,_,_,_,_,_]) (Δ:=Y2) (O:=Γ1) z6;have z8:Sep (pt W1 (wp (Q1.map aw))::pt W2 (wp (Q2.map aw))::ar R B x::pt tA (wr [wl "told",v4 t2])::iZ N t2 o::pt La (wp (P1.map aw))::pt Lb (wp (P2.map aw))::pt LL (wp [v4 La,v4 Lb])::aM d x::(Y2++Γ1)) H3:=z7.sub (by ac_nf);clear z5 z6 z7;exact FR (k:=k) ro hk s0 s60 ⟨by omega,by omega⟩ ⟨by omega,by omega⟩ g1'.app (g2 _ hd2') ef1 ef2 m1 m2 b1 b2 hd1'.app hd2'.app ho z8 q
end
noncomputable abbrev Ql:=Addr×List (Addr×Rw)
abbrev Fe (R:Rt)(q:Ql):List aj:=pt q.1 (wp (q.2.map aw))::q.2.reverse.map (kO R)
def Fi (ro:Ro K R)(hk:15<=k):∀ vs H Q E,hE K 63 vs H Q E->aa tab R k 104 vs H Q E:=by
 rintro vs H Q E ⟨a,is,rfl,hS,h63,hQ⟩;delta fS;right;rw[<-ro.hK]at hS;refine DG nofun Sep.nil hS h63 (λh H1 z1=>?_);walk_at "gd";rename_i w H2 w0 w1 z2 r1 H3 r10 r11 z3 r2 H4 r20 r21 z4 TL H5 z5 r3 H6 r30 r31 z6;clear z1 z2 z3 z4 z5;obtain⟨N,hN⟩:=sw (a:=1+r3) nofun;rw[hN];have N0:1<=N:=by omega
 have N1:N<=8:=by omega
 clear hN;have z6:Sep (hand h 4::pt TL (wp [wf (r1+1),wf (r2+1)])::[]) H6:=(ah (n:=4) (z6.pull (A:=hand h _) (by symm)) nofun).sub (by ac_nf);refine mY (n:=N) nofun (λD ys H=>∃ cs:List Int,ys=cs.map wf/\jM cs/\Sep (pt D (wp ys)::hand h (4+3*((ys.length:Nat):Int))::pt TL (wp [wf (r1+1),wf (r2+1)])::[]) H) (λD hD=>⟨[],rfl,λi hi=>absurd hi (by simp),(ah (n:=4+3*((([]:List V).length:Nat):Int)) ((z6.new (o:=wp []) hD).pull .k1) (by simp)).pull .k1⟩) (λD ys H hl hI=>?_) (λC ys H hl hI=>?_)
 .obtain⟨cs,e,hc,zz⟩:=hI;left;refine⟨rfl,?_⟩;refine lb nofun (zz.pull .k1) nofun (λi H2 i0 i1 z2=>?_);have z3:=(z2.pull .k1).set (o':=wp (ys++[wf i])) rfl;refine vp.mk (z2.get .k1) nofun ⟨cs++[i],by rw[e,f8];rfl,λj hj=>?_,?_⟩
  .rcases mem_append.mp hj with hj|hj
   .exact hc j hj
   .rw[mem_singleton.mp hj];exact⟨i0,i1⟩
  .exact(ah (n:=4+3*(((ys++[wf i]).length:Nat):Int)) (z3.pull .k1) (by rw[cr,ge];omega)).pull .k1
 obtain⟨cs,rfl,hc,z7⟩:=hI;rw[ci]at hl z7;clear z6;left;refine Ez (p:=C) nofun (z7.pull .k1) nofun nofun nofun hc (λd x H6 hx z8=>?_);right;have z9:Sep (hand h 100::pt TL (wp [wf (r1+1),wf (r2+1)])::aM d x::[]) H6:=(ah (n:=100) (z8.pull (A:=hand h _) (by symm)) nofun).sub (by ac_nf);clear z7 z8;refine mY (n:=2) nofun (λD ys H=>∃ S:List Ql,ys=S.map (λq=>v4 q.1)/\(∀ q ∈ S,(1<=q.2.length/\q.2.length<=20)/\∀ p ∈ q.2,p.2.ok/\aR p.2=false)/\Sep (pt D (wp ys)::hand h (100+400*((ys.length:Nat):Int))::pt TL (wp [wf (r1+1),wf (r2+1)])::aM d x::(S.reverse.map (Fe R)).flatten) H) (λD hD=>⟨[],rfl,λi hi=>absurd hi (by simp),(ah (n:=100+400*((([]:List V).length:Nat):Int)) ((z9.new (o:=wp []) hD).pull .k1) (by simp)).pull .k1⟩) (λD ys H hl hI=>?_) (λLL ys H hl hI=>?_)
 .obtain⟨S,e,ok,z10⟩:=hI;clear z9;walk_at "gd";rename_i r H7 r0' r1' z11;have z12:Sep (hand h (101+400*((ys.length:Nat):Int))::pt D (wp ys)::pt TL (wp [wf (r1+1),wf (r2+1)])::aM d x::(S.reverse.map (Fe R)).flatten) H7:=(ah (n:=101+400*((ys.length:Nat):Int)) (z11.pull (A:=hand h _) (by symm)) nofun).sub (by ac_nf);clear z10 z11;refine mY (n:=(1+r).toNat) nofun (λD1 zs H=>∃ L:List (Addr×Rw),zs=L.map aw/\(∀ p ∈ L,p.2.ok/\aR p.2=false)/\Sep (pt D1 (wp zs)::hand h (101+400*((ys.length:Nat):Int)+10*((zs.length:Nat):Int))::(L.reverse.map (kO R)++(pt D (wp ys)::pt TL (wp [wf (r1+1),wf (r2+1)])::aM d x::(S.reverse.map (Fe R)).flatten))) H) (λD1 hD=>⟨[],rfl,λi hi=>absurd hi (by simp),(ah (n:=101+400*((ys.length:Nat):Int)+10*((([]:List V).length:Nat):Int)) ((z12.new (o:=wp []) hD).pull .k1) (by simp)).pull .k1⟩) (λD1 zs H hl2 hI=>?_) (λPL zs H hl2 hI=>?_)
  .obtain⟨L,e2,ok2,y1⟩:=hI;clear z12;right;refine xI nofun (y1.pull .k1) nofun nofun nofun (λt r H7 ok3 bl3 y2=>?_);right;refine vG r ro nofun ok3 bl3 y2 (λdd H8 y3=>?_);have y4:=(y3.pull (A:=pt D1 (wp zs)) .k3).set (o':=wp (zs++[v4 dd])) rfl;refine vp.mk (y3.get .k3) nofun ⟨L++[(dd,r)],by rw[e2];simp[aw],λp hp=>?_,?_⟩
   .rcases mem_append.mp hp with hp|hp
    .exact ok2 p hp
    .rw[mem_singleton.mp hp];exact⟨ok3,bl3⟩
   .rw[reverse_append];show Sep (pt D1 _::hand h _::fR R dd r::(L.reverse.map (kO R)++_)) _;exact(ah (n:=101+400*((ys.length:Nat):Int)+10*(((zs++[v4 dd]).length:Nat):Int)) (y4.pull (A:=hand h _) (by symm)) (by rw[cr,ge];omega)).sub (by ac_nf)
  .obtain⟨L,rfl,ok2,y1⟩:=hI;rw[ci]at hl2 y1;clear z12;have y1':Sep (pt PL (wp (L.map aw))::hand h (101+400*((ys.length:Nat):Int)+10*((L.length:Nat):Int))::pt D (wp ys)::pt TL (wp [wf (r1+1),wf (r2+1)])::aM d x::(L.reverse.map (kO R)++(S.reverse.map (Fe R)).flatten)) H:=Sep.mv (P:=[_,_]) (L:=[_,_,_]) (Δ:=L.reverse.map (kO R)) (O:=(S.reverse.map (Fe R)).flatten) y1;have y2:Sep (pt D (wp ys)::pt PL (wp (L.map aw))::hand h (101+400*((ys.length:Nat):Int)+10*((L.length:Nat):Int))::pt TL (wp [wf (r1+1),wf (r2+1)])::aM d x::(L.reverse.map (kO R)++(S.reverse.map (Fe R)).flatten)) H:=y1'.sub (by ac_nf);have y3:=y2.set (o':=wp (ys++[v4 PL])) rfl;refine vp.mk y2.at nofun ⟨S++[(PL,L)],by rw[e];simp,λp hp=>?_,?_⟩
   .rcases mem_append.mp hp with hp|hp
    .exact ok p hp
    .rw[mem_singleton.mp hp];exact⟨⟨by show 1<=L.length;omega,by show L.length<=20;omega⟩,ok2⟩
   .rw[reverse_append];show Sep (pt D _::hand h _::pt TL _::aM d x::pt PL (wp (L.map aw))::(L.reverse.map (kO R)++(S.reverse.map (Fe R)).flatten)) _;exact(ah (n:=100+400*(((ys++[v4 PL]).length:Nat):Int)) (y3.pull (A:=hand h _) (by symm)) (by rw[cr,ge];omega)).sub (by ac_nf)
 obtain⟨S,rfl,ok,z10⟩:=hI;rw[ci]at hl;clear z9;obtain⟨⟨La,P1⟩,⟨Lb,P2⟩,rfl⟩:∃ q1 q2,S=[q1,q2]:=by
  match S,hl with
  | [q1,q2],_=>exact⟨q1,q2,rfl⟩
 have z11:Sep (pt LL (wp [v4 La,v4 Lb])::hand h (100+400*((2:Nat):Int))::pt TL (wp [wf (r1+1),wf (r2+1)])::aM d x::pt Lb (wp (P2.map aw))::(P2.reverse.map (kO R)++(pt La (wp (P1.map aw))::(P1.reverse.map (kO R)++[])))) H:=z10;clear z10;have o1:=ok (La,P1) (by simp);have o2:=ok (Lb,P2) (by simp);right;refine vT (x:=x) ro nofun hx (z11.pull .k3) (λB H8 z12=>?_);clear z11;have z13:Sep (ar R B x::aM d x::pt LL (wp [v4 La,v4 Lb])::hand h (100+400*((2:Nat):Int))::pt TL (wp [wf (r1+1),wf (r2+1)])::pt Lb (wp (P2.map aw))::pt La (wp (P1.map aw))::(P2.reverse.map (kO R)++(P1.reverse.map (kO R)++[]))) H8:=Sep.mv (P:=[_,_,_,_,_,_]) (L:=[_]) (Δ:=P2.reverse.map (kO R)) z12;have hd2:bY R (P2.reverse.map (kO R)++(P1.reverse.map (kO R)++[])) P2:=λp hp=>by
  obtain⟨Δ,pp⟩:=b9 (f:=kO R) (x:=p) (l:=P2.reverse) (by simpa using hp);exact⟨(o2.2 p hp).1,_,pp _⟩
 have hd1:bY R (P2.reverse.map (kO R)++(P1.reverse.map (kO R)++[])) P1:=λp hp=>by
  obtain⟨Δ,pp⟩:=b9 (f:=kO R) (x:=p) (l:=P1.reverse) (by simpa using hp);exact⟨(o1.2 p hp).1,_,ak (pp _)⟩
 have z14:Sep (pt La (wp (P1.map aw))::pt Lb (wp (P2.map aw))::ar R B x::hand h 900::pt LL (wp [v4 La,v4 Lb])::pt TL (wp [wf (r1+1),wf (r2+1)])::aM d x::(P2.reverse.map (kO R)++(P1.reverse.map (kO R)++[]))) H8:=(ah (n:=900) (z13.pull (A:=hand h _) (by symm)) nofun).sub (by ac_nf);clear z12 z13;exact CU (k:=k) (n:=900) ro hk (by decide) N0 nofun nofun nofun nofun nofun w0 w1 o1.1 o2.1 (λp hp=>(o1.2 p hp).2) (λp hp=>(o2.2 p hp).2) hd1 hd2 z14 hQ
def wM (ro:Ro K R):∀ vs H Q E,hE K 63 vs H Q E->aa tab R 15 104 vs H Q E:=Fi ro (re _)
end
def walk {l:W.OpenLaw}{q:Program}{loose:List Str}{XP:(Str->Option Value)->Heap->Prop}{YP:World->Heap->Prop}{d:DefRec}{K:Params->W.Frag}(hn:l.most=some 63)(hdf:d.params.defaults=[])
    (hY:∀ (w:World) (h:Heap),YP w h->(K w.params).In h)
    (F:∀ (w:World) (mg:K3) (fa:Addr) (h:Heap),(K w.params).In h->h.Ns mainGlobals mg->mg d.name=some (.ref fa)->
      ∃ fd:FuncData,(∀ (s:Shared) (u:Value),BindsTo s fd ⟨[u],[]⟩ [("_law_script",u)])/\∀ base:Heap,(K w.params).In base->base.Ns mainGlobals mg->cz true l.prog w (K w.params) mg base (vz l.prog w) 30 fa fd ["_law_script"] (hE (K w.params) 63)):
    W.WalkO q loose XP YP l.row.toRowW d [] (λf vs=>PySem.call f vs):=
  L2.AG (n:=63) (k:=30) (x:="_law_script") (CX:=λw=>vz l.prog w) (sp:=λw=>hE (K w.params) 63) hn (by decide) hdf ⟨by decide,by decide⟩ hY F (λ_ _ a ns hl _ hS=>⟨a,ns,rfl,hS,hl,λ_=>rfl⟩) λ_ _ _ _ _ z=>wu z
abbrev Kk:List (Str×V):=[("BOUND",.int 1000000000),("MOST_ROWS",.int 24),("MOST_CELLS",.int 60),("MOST_HOPPED",.int 24),("NAMES",.ref 201)]
def KI (p:Params):L3.zR (K0 p) tab JK J8 Kk=true:=by kernel_rfl
def KW (p:Params):L3.kh (K0 p) tab JK 0 tab.fns=true:=by kernel_rfl
end My
open PySem PySem.W PyProof.Rows
set_option maxRecDepth 100000 in
set_option maxHeartbeats 0 in
theorem PySem.Challenge.cw_haulbell_k88_not_blind_holds : PySem.Challenge.rw_haulbell_k88_not_blind.Holds := by
  refine holds_law My.GN fun said=>?_
  refine W.holds_open (loose:=My.wR) (N:=18578)
    (q:=My.qd My.pr)
    (Yf:=fun s=>My.HU.map s.heap.get?)
    (Ya:=fun w=>(My.K0 w.params).map fun p=>some p.2)
    (Xt:=fun s=>xlAt (My.qd My.pr) [] s&&recOk PySem.Challenge.rw_haulbell_k88_not_blind.row.records s)
    (XP:=XL (My.qd My.pr) [])
    (YP:=InK My.K0) My.HP
    (InK.of (as:=My.HU) fun _=>by kernel_rfl) InK.keeps
    (fun s e=>xl_of s (Bool.and_eq_true_iff.mp e).1)
    XL.keeps (by rfl) (by rfl) (by rfl)
    (fun s e=>recFacts_of (Bool.and_eq_true_iff.mp e).2)
    (by rfl) (by assumption) (by decide+kernel)
    ⟨rfl,rfl,rfl,rfl,rfl,by decide+kernel⟩ ?hw ?hc
  case hw=>w_witness2
  refine My.walk (l:=PySem.Challenge.rw_haulbell_k88_not_blind) rfl rfl (fun w h Y=>Y) ?F
  case F=>
    intro w mg fa h KX G hmg;exact L3.zK KX G hmg (T:=My.tab) (fs:=My.JK) (cs:=My.J8) (gs:=My.Kk) (d:=My.fS) (fl:=104) (k:=15) (My.KI _) (My.KW _) (by kernel_rfl) rfl rfl rfl (My.wM ⟨rfl,by kernel_rfl,by kernel_rfl,by kernel_rfl,by kernel_rfl,⟨201,by kernel_rfl,L3.EM (by kernel_rfl)⟩⟩)
