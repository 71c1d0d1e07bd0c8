import PyProof.Rows.All
import Wide.All
import OpenK.AllK
import Wide.FinOn
import PySem.Challenge.RW_haulbell_k92_no_blocks
import Lean
import PyProof.EqAt
import PyProof.EqKinds
import PyProof.TupleCall
import PyProof.EnumStmt
import PyProof.NeKinds
import PyProof.ExcAttrAll.ValueError
import PyProof.ExcInit
import PyProof.StationsW
import PyProof.NsDelKeeps
import PyProof.InstStoreFacts
import PyProof.ZipIter
import PyProof.IsiBase
import PyProof.AttrMiss
import KE.KDictOf
import KE.KDictList
import PyProof.InstEq
import PyProof.Rows.Range3
import PyProof.EnumMake
import PyProof.StrWalks
import PyProof.DictWalks
import PyProof.Rows.StrWeight2
import PyProof.StrCalls2
import PyProof.Rows.StrFacts2
import KE.KEqDict
import KE.KTab
import KE.KTabLook
import KE.KIntText
import PyProof.SliceStr
import PyProof.StrOps2
import KE.LcSums
open PySem.W renaming behindTheImports→ac
open PySem renaming wpAny_bind→am,wpAny_pure→ap,wpAny_field→bd,wpAny_holding→bi,wpAny_truthy_bool→bm,starEach→bv,sizeLine→ce,wpAny_Call_Name_kw→ci
open List renaming length_map→cr,length_append→db,mem_of_getElem?→dl,length_take→dL,mem_cons_of_mem→f8,map_append→ge,length_singleton→gt,size_toArray→im,mem_append_right→io,getElem?_map→jp,length_drop→le,append_assoc→lf,getElem?_eq_getElem→li,mem_cons_self→lv,mem_cons→lw
open Bool renaming and_eq_true→mo
open Option renaming map_eq_some_iff→nb
open Nat renaming lt_of_lt_of_le→ol,le_of_ble_eq_true→pc,ne_of_lt→pi,le_refl→re
open Int renaming toNat_natCast→s0,eq_ofNat_of_zero_le→ss
open List renaming replicate→sw,getElem?_eq_some_iff→sK
open PySem.Heap renaming get?_push_of_some→tz,lt_size→u8,get?_push_size→ul
set_option linter.all false
set_option maxRecDepth 100000
set_option Elab.async false
set_option compiler.extract_closed false
theorem My.kleA {a b k:Nat}(h:a<=k)(e:Nat.ble (b+1) a=true):b<=k-1:=Nat.le_sub_one_of_lt (ol (pc e) h)
theorem My.kleB {a b k:Nat}(h:a<=k)(e:Nat.ble b a=true):b<=k:=Nat.le_trans (pc e) h
set_option hygiene false
local macro_rules| `(tactic|sleep $n:num)=>`(tactic|((conv at h=>lhs;whnf);iterate $n (split at h;rotate_left;cases h)))
set_option hygiene true
local macro_rules|`(command|abbrev $i:declId $s:optDeclSig $v:declVal)=>`(command|noncomputable def $i:declId $s:optDeclSig $v:declVal)
local macro_rules|`(command|def $i:declId $b:bracketedBinder* :$t $v:declVal)=>`(command|theorem $i:declId $b:bracketedBinder* :$t $v:declVal)
local macro_rules|`(nofun)=>`(by first|exact My.kleA (by assumption) (by rfl)|exact My.kleB (by assumption) (by rfl)|lia|omega)
local macro_rules|`(tactic|omega)=>`(tactic|lia)
noncomputable abbrev My.pr:PySem.Program:=PySem.Challenge.rw_haulbell_k92_no_blocks.row.prog
open PySem PySem.W in
set_option maxHeartbeats 0 in
def My.EX:PySem.Challenge.rw_haulbell_k92_no_blocks.wellSaid=true:=by
  rewrite [Fast.te9446332074065402090]
  kernel_rfl
namespace L2
open PySem PySem.Spec
abbrev inClass (s:Stmt)(j:Nat):Stmt:=match s with
  | .ClassDef _ _ _ body _ _ _ _ _ _ _=>body.getD j (.Pass ⟨0,0,0,0⟩)
  |_=>.Pass ⟨0,0,0,0⟩
abbrev qV (s:Stmt):Arguments:=match s with
  | .FunctionDef _ a _ _ _ _ _ _ _ _=>a
  |_=>{ posonlyargs:=[],args:=[],vararg:=none,kwonlyargs:=[],kw_defaults:=[],kwarg:=none,defaults:=[] }
abbrev rS (s:Stmt):List Stmt:=match s with
  | .FunctionDef _ _ b _ _ _ _ _ _ _=>b
  |_=>[]
abbrev pd (s:Stmt):Scope:=match s with
  | .FunctionDef _ _ _ _ _ _ sc _ _ _=>sc
  |_=>{ kind:=.function,names:=[],isGenerator:=false,isCoroutine:=false }
end L2
namespace My
open PySem L2 PySem.W
abbrev top (i:Nat):Stmt:=PySem.Challenge.pw_haulbell_k92_no_blocks.main.body.getD i (.Pass ⟨0,0,0,0⟩)
abbrev tq (i j:Nat):Stmt:=inClass (top i) j
/-- the top's run on a tree -/
abbrev kh (tb:String->Option Builtin)(p:Program)(w:World)(m:Nat)(ann:Option Value):Nat->SharedT->Thread->Option SharedT
  |0,_,_=>none
  |n+1,s,t=>match through t with
    |true=>some s
    |false=>match stepOk m ann t with
      |false=>none
      |true=>match stepT (denote tb) p w s t with
        |some r=>kh tb p w m ann n r.1 r.2
        |none=>none
def sx {tb:String->Option Builtin}{p:Program}{w:World}{m:Nat}{ann:Option Value}:∀ {n:Nat}{s s':SharedT}{t:Thread},kh tb p w m ann n s t=some s'->topRun tb p w m ann n s.abs t=some s'.abs
  |0,_,_,_,h=>by cases h
  |n+1,s,s',t,h=>by
    unfold kh at h;unfold topRun;cases a:through t
    · rw[a]at h;dsimp only at h⊢
      cases b:stepOk m ann t
      · rw[b]at h;cases h
      · rw[b]at h;dsimp only at h⊢
        cases c:stepT (denote tb) p w s t with
        |none=>rw[c]at h;cases h
        |some r=>rw[c]at h;rw[stepT_spec c];exact sx h
    · rw[a]at h;cases h;rfl
abbrev Fm:Nat->BT->List Obj->BT
  |_,t,[]=>t
  |n,t,o::os=>Fm (n+1) (t.ins n o) os
abbrev wg (P:Params):BT:=Fm 0 .nil (boot_heap P).objs.toList
abbrev G7 (P:Params)(os:OsState):SharedT:=⟨wg P,11,(boot_heap P).life,Array.mk [],boot_drawn,boot_toks,os⟩
def uJ {p q:Program}{loose:List Str}{Xt:Shared->Bool}{α:Type}{Yf:Shared->α}{Ya:World->α}{N:Nat}(e:opening p=plainProg p.main.scope.names)(hN:Nat.ble 600 N=true)(f:∀ s,fenceModules? p s=some s)
    (h0:∀ P,absHeap (wg P) 11 (boot_heap P).life=boot_heap P) (h1:∀ P,((boot_heap P).isNs mainGlobals,(boot_heap P).objs.size,(boot_heap P).nsMap mainGlobals "__annotations__")=(true,11,some (.ref 6)))
    (run:∀ (w:World) (os:OsState),(kh treeTable p w 11 (some (.ref 6)) N (G7 w.params os) (topStub p)).map (λs=>(staticsOk (importedModules p.main.body) (boot_heap w.params) s.abs.heap&&namesBound p s.abs.heap&&gensDone s.abs&&laidKept (boot_heap w.params) s.abs.heap,
      openSeen q loose (importedModules p.main.body) Xt true s.abs,Yf s.abs))=some (true,openGood q loose,Ya w)):LeftO p q loose Xt Yf Ya N:=λw=>by
  obtain⟨⟨hp,gs,d,k,os⟩,e1,e2⟩:=nb.mp (boot_open e hN f w);obtain⟨rfl,rfl,rfl,rfl⟩:hp=boot_heap w.params/\gs=Array.mk []/\d=boot_drawn/\k=boot_toks:=by simpa using e2
  obtain⟨z1,z2,z3⟩:_/\_/\_:=by simpa only [Prod.mk.injEq] using h1 w.params
  obtain⟨s,r,l⟩:=nb.mp (run w os);obtain⟨l1,l2,l3⟩:_/\_/\_:=by simpa only [Prod.mk.injEq] using l
  have r1:=sx r;have a0:(G7 w.params os).abs=⟨boot_heap w.params,Array.mk [],boot_drawn,boot_toks,os⟩:=by
    show(⟨absHeap (wg w.params) 11 (boot_heap w.params).life,Array.mk [],boot_drawn,boot_toks,os⟩:Shared)=_;rw[h0]
  rw[a0]at r1;unfold openEnds;rw[e1];have t:topFrom treeTable p w N ⟨boot_heap w.params,Array.mk [],boot_drawn,boot_toks,os⟩=some s.abs:=by
    unfold topFrom;dsimp only;rw[z1,z2,z3,r1];show(match staticsOk (importedModules p.main.body) (boot_heap w.params) s.abs.heap&&namesBound p s.abs.heap&&gensDone s.abs&&laidKept (boot_heap w.params) s.abs.heap with|true=>some s.abs|false=>none)=some s.abs;rw[l1]
  show(topFrom treeTable p w N _).map _=_;rw[t];exact congrArg some (Prod.ext l2 l3)
abbrev Hc:List Addr:=2::3::30::31::47::48::50::51::66::67::69::70::85::86::88::89::104::105::107::108::123::124::126::127::135::136::137::143::144::150::151::157::158::164::165::174::175::192::193::206::207::209::210::225::226::239::240::242::243::258::259::272::273::275::276::291::292::305::306::308::309::324::325::338::339::341::342::350::351::357::358::366::372::373::386::387::389::390::405::406::412::413::415::416::433::434::440::441::443::444::456::462::463::469::470::472::473::497::498::500::501::523::524::526::527::549::550::552::553::575::576::578::579::601::602::604::605::627::628::630::631::637::638::642::643::649::650::663::664::670::671::677::678::684::685::691::692::705::706::712::713::719::720::747::748::754::755::757::758::768::769::775::776::782::783::789::790::796::797::803::804::810::811::817::818::824::825::831::832::838::839::845::846::852::853::859::860::866::867::871::872::876::877::883::884::890::891::897::898::902::903::907::908::914::915::919::920::926::927::933::934::940::941::945::946::952::953::959::960::966::967::973::974::980::981::987::988::994::995::999::1000::[]
abbrev HY:List Addr:=48::67::86::105::124::136::144::151::158::165::193::207::226::240::259::273::292::306::325::339::351::358::373::387::406::413::434::441::463::470::498::524::550::576::602::628::638::643::650::664::671::678::685::692::706::713::720::748::755::769::776::783::790::797::804::811::818::825::832::839::846::853::860::867::872::877::884::891::898::903::908::915::920::927::934::941::946::953::960::967::974::981::988::995::1000::[]
abbrev Jc:List Addr:=[31,51,70,89,108,127,175,210,243,276,309,342,390,416,444,473,501,527,553,579,605,631,758]
abbrev runK (tb:String->Option Builtin)(p:Program)(w:World)(m:Nat)(ann:Option Value):Nat->SharedT->Thread->Option (SharedT×Thread)
  |0,s,t=>some (s,t)
  |n+1,s,t=>match through t with
    |true=>none
    |false=>match stepOk m ann t with
      |false=>none
      |true=>match stepT (denote tb) p w s t with
        |some r=>runK tb p w m ann n r.1 r.2
        |none=>none
def eE {tb:String->Option Builtin}{p:Program}{w:World}{m:Nat}{ann:Option Value}{k:Nat}:∀ {n:Nat}{s:SharedT}{t:Thread}{r:SharedT×Thread},runK tb p w m ann n s t=some r->kh tb p w m ann (n+k) s t=kh tb p w m ann k r.1 r.2
  |0,s,t,r,h=>by
    rw[Nat.zero_add];cases h
    rfl
  |n+1,s,t,r,h=>by
    rw[Nat.succ_add];unfold runK at h;conv=>lhs;unfold kh
    cases a:through t
    · rw[a]at h;dsimp only at h⊢
      cases b:stepOk m ann t
      · rw[b]at h;cases h
      · rw[b]at h;dsimp only at h⊢
        cases c:stepT (denote tb) p w s t with
        |none=>rw[c]at h;cases h
        |some r=>rw[c]at h;exact eE h
    · rw[a]at h;cases h
abbrev kT (x y:Str)(s:Stmt):Obj:=⟨.none,none,.func { name:=x,qualname:=y,params:=qV s,body:=.stmts (rS s),scope:=pd s,globals:=builtinsNs,closure:=[],defaults:=.none,kwdefaults:=.none },#[]⟩
abbrev bo (P:Params)(i:Nat):Obj:=(boot_heap P).objs.toList.getD i ⟨.none,none,.plain,#[]⟩
abbrev iq (p:Program):Env:={ scope:=p.main.scope,locals:=mainNs,globals:=mainNs,cells:=[],code:=.ref 13,frame:=some 14 }
abbrev Jb:Frame:=.ret (λx=>Sem.bind (match x with| .ok f=>Sem.pure f| .error e=>Sem.raise e) (λ_=>ret .none)) none false [] (.builtin "claim.caller" {}) default []
abbrev Af (p:Program)(X:List Stmt):Sem Fin:=Sem.bind (Sem.onRaise (execs X (iq p)) (leaving (iq p))) (λa=>Sem.pure (Fin.done a))
abbrev pW (p:Program)(X:List Stmt)(q:Pos):Thread:=⟨Af p X,.body (ac p) (iq p),q,[Jb]⟩
def xD {tb:String->Option Builtin}{p:Program}(h:blockStart (ac p) (iq p)=Sem.pure ()):denote tb (.body (ac p) (iq p))=Af p (ac p):=by
  show Sem.bind (blockStart (ac p) (iq p)) (λ_=>Af p (ac p))=_;rw[h]
  rfl
abbrev o0:Obj:=⟨.type "tuple",none,.seq #[] 0,#[]⟩
abbrev oN:Obj:=⟨.none,none,.fields #[],#[]⟩
abbrev oL:List Str->Nat->List Value
  | [],_=>[]
  |x::r,t=>.str x t::oL r (t+1)
abbrev oS (l:List Str)(t:Nat):Obj:=⟨.type "tuple",none,.seq (Array.mk (oL l t)) 0,#[]⟩
abbrev Jd (l:List (Int×Nat)):Array Value:=(l.flatMap λp=>[.int p.1 0,.int 0 0,.ref p.2]).toArray
abbrev Ja:List (Int×Nat):=[(1,20),(5,27),(7,40),(12,59),(17,78),(22,97),(27,116),(34,135),(38,143),(40,150),(43,157),(46,164),(49,171),(51,185),(64,218),(77,251),(90,284),(101,317),(114,350),(116,357),(118,364)]
abbrev Jx:List (Int×Nat):=Ja++[(135,398),(142,426),(150,454),(160,483),(167,509),(174,535),(181,561),(188,587),(195,613),(205,637),(212,642),(219,649),(221,656),(281,768),(294,775),(299,782),(313,789),(319,796),(327,803),(338,810),(340,817),(345,824),(351,831),(359,838),(367,845),(370,852),(376,859),(392,866),(410,871),(415,876),(421,883),(428,890),(440,897),(451,902),(455,907),(459,914),(471,919),(479,926),(489,933),(508,940),(521,945),(540,952),(556,959),(562,966),(570,973),(582,980),(589,987),(595,994)]
abbrev oI (l c a:Nat):Obj:=⟨.none,none,.fields #[.int l 0,.int c 0,.ref a],#[]⟩
abbrev oK (x:Str)(t l r:Nat):Obj:=⟨.type "code",none,.fields #[.str x t,.str x (t+1),.str "/claim/cut.py" (t+2),.int l 0,.int 0 0,.int 0 0,.int 0 0,.int 0 0,.ref r,.bool false,.int 181 0,.ref (r+1),.none,.none,.none,.none,.int (t+3:Nat) 0,.int l 0,.str "/claim/cut.py" (t+4)],#[]⟩
abbrev oC (x y:Str)(t l n r u:Nat):Obj:=⟨.type "code",none,.fields #[.str x t,.str y (t+1),.str "/claim/cut.py" (t+2),.int l 0,.int n 0,.int 0 0,.int 0 0,.int 3 0,.ref r,.bool true,.int 181 0,.ref (r+1),.none,.ref (r+2),.ref (r+3),.ref (r+4),.int u 0,.int l 0,.str "/claim/cut.py" (u+1)],#[]⟩
abbrev oF (x y:Str)(s:Stmt)(m:Str)(t c:Nat)(d:Value:=.none):Obj:=⟨.type "function",none,.func (fnOf x y (qV s) (rS s) (pd s) d .none .none (.str m t) none (.ref c) .none),#[]⟩
abbrev oR (a b:Nat)(m:Str)(t:Nat):Obj:=⟨.type "frame",none,.plain,#[some (.ref a),some (.ref 3),some (.ref b),none,some (.str m t),none,some (.ref 0)]⟩
abbrev oX (x:Str)(b m:List Value)(n:Addr)(s:List Value)(r t u:Nat)(w:String):Obj:=⟨.type "type",none,.cls ⟨x,b,m,n,x,true,[],s,false,none,false⟩,#[some (.ref r),none,some (.str x t),some (.str x u),some (.builtin w),some (.bool true)]⟩
abbrev oU (a:Addr):Obj:=⟨.type "super",none,.fields #[.ref a,.ref a,.ref a],#[]⟩
abbrev oJ (a:Addr):Obj:=⟨.type "builtin_function_or_method",none,.fields #[.builtin "object.__init_subclass__",.ref a],#[]⟩
abbrev oP:Obj:=⟨.type "builtin_function_or_method",none,.fields #[.builtin "type.__prepare__",.type "type"],#[]⟩
abbrev oQ (a:Addr):Obj:=⟨.type "tuple",none,.seq #[.ref a] 0,#[]⟩
abbrev fG (x y:Str)(s:Stmt)(m:Str)(mt:Nat)(l:List Str)(t ln n a:Nat)(r:List Obj):List Obj:=o0::oN::oS l (t+3)::o0::kT x y s::oC x y t ln n a (t+3+l.length)::oF x y s m mt (a+5)::r
abbrev oW:List (Nat×Obj)->List Obj->List Obj
  | [],l=>l
  |x::r,l=>(oW r l).set x.1 x.2
abbrev eV (x:Str)(t:Tok)(v:Value)(P:Params):DictEntry:=⟨PyData.keyHash P x,.str x t,v⟩
abbrev eM (t:Nat)(m:Str)(u:Nat):Params->DictEntry:=eV "__module__" t (.str m u)
abbrev eQ (t:Nat)(m:Str)(u:Nat):Params->DictEntry:=eV "__qualname__" t (.str m u)
abbrev eF (t l u:Nat):Params->DictEntry:=eV "__firstlineno__" t (.int l u)
abbrev eS (t a:Nat):Params->DictEntry:=eV "__static_attributes__" t (.ref a)
abbrev eN (t:Nat):Params->DictEntry:=eV "__doc__" t .none
abbrev eR (x:Str)(t a:Nat):Params->DictEntry:=eV x t (.ref a)
abbrev oD (P:Params)(es:List (Params->DictEntry))(n:Nat):Obj:=⟨.type "dict",none,.dict (Array.mk (es.map λf=>f P)) n,#[]⟩
abbrev JI (P:Params):List Obj:=
bo P 0::
bo P 1::
bo P 2::
bo P 3::
bo P 4::
bo P 5::
bo P 6::
bo P 7::
bo P 8::
bo P 9::
bo P 10::
o0::
oN::
oK "<module>" 182 1 11::
oR 13 3 "__main__" 164::[]
abbrev JR (x y:Str)(t l n r:Nat):Obj:=⟨.type "code",none,.fields #[.str x t,.str y (t+1),.str "/claim/cut.py" (t+2),.int l 0,.int n 0,.int 0 0,.int 0 0,.int 3 0,.ref r,.bool true,.int 181 0,.ref (r+1),.none,.none,.none,.ref (r+2),.int (t+3:Nat) 0,.int l 0,.str "/claim/cut.py" (t+4)],#[]⟩
abbrev oG (x b:String)(v:Value)(a t:Nat):Obj:=⟨.type "getset_descriptor",none,.fields #[.str (Str.ofString x) t,.ref a,.builtin b,v],#[]⟩
@[reducible]def Mt:Type:=Str×Str×List Str×Nat×Nat×List (Obj×Nat)
abbrev Bu (a t:Nat)(s:Stmt)(m:Str×Nat)(x y:Str)(l:List Str)(ln n:Nat)(d:Value):List Obj:=match l with
  | []=>o0::oN::kT x y s::JR x y t ln n a::oF x y s m.1 m.2 (a+3) d::[]
  |_=>o0::oN::oS l (t+3)::o0::kT x y s::oC x y t ln n a (t+3+l.length)::oF x y s m.1 m.2 (a+5) d::[]
abbrev Jj (a t:Nat)(s:Stmt)(m:Str×Nat)(q:Mt):List Obj:=match q.2.2.2.2.2 with
  | []=>Bu a t s m q.1 q.2.1 q.2.2.1 q.2.2.2.1 q.2.2.2.2.1 .none
  |d::_=>d.1::Bu (a+1) (t+d.2) s m q.1 q.2.1 q.2.2.1 q.2.2.2.1 q.2.2.2.2.1 (.ref a)
abbrev B3 (q:Mt)(a:Nat):Nat:=match q.2.2.1 with
  | []=>a+5+q.2.2.2.2.2.length
  |_=>a+7+q.2.2.2.2.2.length
abbrev GG (q:Mt)(t:Nat):Nat:=match q.2.2.2.2.2 with
  | []=>t+6+q.2.2.1.length
  |d::_=>t+d.2+6+q.2.2.1.length
abbrev IX (i:Nat)(m:Str×Nat):Nat->List Mt->Nat->Nat->(List Obj->Nat->Nat->List Obj)
  |_,[],_,_=>λr _ _=>r
  |j,q::l,a,t=>λr x y=>Jj a t (inClass (top i) j) m q++IX i m (j+1) l (B3 q a) (GG q t) r x y
abbrev IT:List Mt->Nat->Nat
  | [],a=>a
  |q::l,a=>IT l (B3 q a)
abbrev Jk:List Mt->Nat->Nat
  | [],a=>a
  |q::l,a=>Jk l (GG q a)
abbrev Je:List Mt->Nat->Nat->List (Params->DictEntry)->List (Params->DictEntry)
  | [],_,_,r=>r
  |q::l,a,t,r=>eR q.1 (GG q t-1) (B3 q a-1)::Je l (B3 q a) (GG q t) r
abbrev Jp:List Mt->Nat->List Value
  | [],_=>[]
  |q::l,a=>.int q.2.2.2.1 0::.int 4 0::.ref (B3 q a-2)::Jp l (B3 q a)
@[reducible]def It:Type:=(Params->List Obj)×List (Params->DictEntry)×List Value
abbrev iF (a t i:Nat)(m:Str×Nat)(x:Str)(l:List Str)(ln n:Nat)(d:List (Obj×Nat):=[]):It:=(λ_=>Jj a t (top i) m (x,x,l,ln,n,d),eR x (GG (x,x,l,ln,n,d) t-1) (B3 (x,x,l,ln,n,d) a-1)::[],.int ln 0::.int 0 0::.ref (B3 (x,x,l,ln,n,d) a-2)::[])
abbrev iR (o:Params->List Obj):It:=(o,[],[])
abbrev iE (x:Str)(t:Nat)(v:Value):It:=(λ_=>[],[eV x t v],[])
abbrev iC (a T i:Nat)(m:Str×Nat)(x:Str)(ln:Nat)(ms:List Mt)(st:List Str)(sub:List Value:=[]) (br:Nat:=0) (mro:List Value:=[]) (w:String:=""):It:=
  let b:=IT ms (a+7)
  let s:=Jk ms (T+12)
  let e:=s+st.length
  let h (z:List (Params->DictEntry)):=eF (T+11) ln (T+10)::Je ms (a+7) (T+12) (eS e b::z)
  let o (y:List (Params->DictEntry)) (z k:Obj) (n:Nat) (r:List Obj) (P:Params):List Obj:=z::oP::oD P (eM (T+7) m.1 m.2::eQ (T+9) x (T+8)::h []) (4+ms.length)::o0::⟨.none,none,.fields (Array.mk (Jp ms (a+7))),#[]⟩::oK x (T+2) ln (a+3)::oR (a+5) (a+2) m.1 m.2::IX i m 0 ms (a+7) (T+12) ((match st with| []=>o0|_=>oS st s)::oD P (eM (T+7) m.1 m.2::h y) n::k::r) 0 0
  match br with
  |0=>(o [eR "__dict__" (e+2) (b+3),eR "__weakref__" (e+4) (b+4),eN (e+5)] o0 ⟨.type "type",none,.cls ⟨x,[.type "object"],[.ref (b+2),.type "object"],b+1,x,true,[],sub,false,none,false⟩,#[none,none,some (.str x T),some (.str x (T+8)),some (.builtin "object.__new__"),some (.bool true)]⟩ 4 [oG "__dict__" "function.__dict__" (.builtin "function.__dict__#set") (b+2) (e+1),oG "__weakref__" "ExceptionGroup.__weakref__" .none (b+2) (e+3),oU (b+2),oJ (b+2)],eR x (e+7) (b+2)::[],.int ln 0::.int 0 0::.ref (a+5)::[])
  |_=>(o [eN (e+1)] (oQ br) (oX x [.ref br] (.ref (b+2)::.ref br::mro) (b+1) sub a T (T+8) w) 2 [oU (b+2),oJ (b+2)],eR x (e+3) (b+2)::[],.int ln 0::.int 0 0::.ref (a+5)::[])
abbrev Hr (P:Params)(nm:Str)(nt n:Nat)(l:List It):List Obj:=bo P 0::bo P 1::bo P 2::oD P (eV "__name__" 165 (.str nm nt)::eN 166::eV "__package__" 167 .none::eV "__loader__" 168 (.builtin "__main__.__loader__#opaque")::eV "__spec__" 169 .none::eR "__annotations__" 170 6::eR "__builtins__" 171 4::eV "__file__" 173 (.str "/claim/cut.py" 172)::eV "__cached__" 174 .none::l.flatMap (·.2.1)) n::bo P 4::bo P 5::bo P 6::bo P 7::bo P 8::bo P 9::bo P 10::o0::⟨.none,none,.fields (Array.mk (l.flatMap (·.2.2))),#[]⟩::oK "<module>" 182 1 11::oR 13 3 "__main__" 164::l.flatMap (·.1 P)
abbrev JB:Str×Nat:=("__main__",164)
abbrev Gz:Str×Nat:=("haulbell.errors",194)
abbrev JH:Str×Nat:=("haulbell.wholes",339)
abbrev IU:Str×Nat:=("haulbell.boxes",350)
abbrev BN:Str×Nat:=("haulbell.deeds",373)
abbrev Ip:Str×Nat:=("haulbell.hops",622)
abbrev HK:Str×Nat:=("haulbell.items",684)
abbrev EM:Str×Nat:=("haulbell.longs",800)
abbrev JM:Str×Nat:=("haulbell.book",994)
abbrev IC:Str×Nat:=("haulbell.reader",1006)
abbrev i9:Str×Nat:=("haulbell.texts",1154)
abbrev bK:Str×Nat:=("law_haulbell_k92_no_blocks",1259)
abbrev Fx (a T i:Nat)(m:Str×Nat)(x:Str)(ln:Nat)(ms:List Mt)(st:List Str)(sub:List Value:=[]):It:=iC a T i m x ln ms st sub 31 [.type "ValueError",.type "Exception",.type "BaseException",.type "object"] "ValueError.__new__"
abbrev uV (a T i:Nat)(m:Str×Nat)(x:Str)(ln:Nat)(ms:List Mt)(st:List Str)(sub:List Value:=[]):It:=iC a T i m x ln ms st sub 175 [.type "object"] "object.__new__"
abbrev Dt:List It:=
iF 15 187 0 JB "_wall" ["k"] 1 1::
iE "HaulError" 213 (.ref 31)::
iR (λP=>[⟨.type "tuple",none,.seq #[.type "ValueError"] 0,#[]⟩,oP,oD P [eM 203 "haulbell.errors" 194,eQ 205 "HaulError" 204,eF 207 5 206,eS 208 29] 4,o0,oN,oK "HaulError" 198 5 25,oR 27 24 "haulbell.errors" 194,o0,oD P [eM 203 "haulbell.errors" 194,eF 207 5 206,eS 208 29,eR "__weakref__" 210 32,eN 211] 3,oX "HaulError" [.type "ValueError"] [.ref 31,.type "ValueError",.type "Exception",.type "BaseException",.type "object"] 30 [.ref 51,.ref 70,.ref 89,.ref 108,.ref 127] 22 196 204 "ValueError.__new__",⟨.type "getset_descriptor",none,.fields #[.str "__weakref__" 209,.ref 31,.builtin "ExceptionGroup.__weakref__",.none],#[]⟩,oU 31,oJ 31])::
Fx 35 214 3 Gz "NoDeed" 7 [("__init__","NoDeed.__init__",["self","word"],9,2,[])] ["word"]::
Fx 54 239 4 Gz "NoName" 12 [("__init__","NoName.__init__",["self","word"],14,2,[])] ["word"]::
Fx 73 264 5 Gz "NoFlat" 17 [("__init__","NoFlat.__init__",["self","many"],19,2,[])] ["many"]::
Fx 92 289 6 Gz "NoText" 22 [("__init__","NoText.__init__",["self","at"],24,2,[])] ["at"]::
Fx 111 314 7 Gz "NoRow" 27 [("__init__","NoRow.__init__",["self","row"],29,2,[])] ["row"]::
iE "BOUND" 342 (.int 1000000000 341)::
iF 130 343 10 JH "is_whole" ["thing"] 34 1::
iE "NAMES" 358 (.ref 137)::
iR (λ_=>[oS ["here","there","left","way","sign","met"] 352])::
iF 138 359 13 IU "is_box" ["thing"] 38 1::
iF 145 366 14 IU "is_number" ["thing"] 40 1::
iF 152 375 16 BN "check_box" ["word","box"] 43 2::
iF 159 383 17 BN "check_number" ["word","number"] 46 2::
iC 166 391 0 BN "Deed" 49 [] [] [.ref 210,.ref 243,.ref 276,.ref 309,.ref 342,.ref 390,.ref 501,.ref 527,.ref 553,.ref 579,.ref 605,.ref 631]::
uV 180 411 19 BN "Set" 51 [("__init__","Set.__init__",["self","box","number"],53,3,[]),("step","Set.step",["self","boxes","store"],59,3,[]),("words","Set.words",["self"],62,1,[])] ["box","number"]::
uV 213 454 20 BN "Add" 64 [("__init__","Add.__init__",["self","box","number"],66,3,[]),("step","Add.step",["self","boxes","store"],72,3,[]),("words","Add.words",["self"],75,1,[])] ["box","number"]::
uV 246 497 21 BN "Take" 77 [("__init__","Take.__init__",["self","box","other"],79,3,[]),("step","Take.step",["self","boxes","store"],85,3,[]),("words","Take.words",["self"],88,1,[])] ["box","other"]::
uV 279 540 22 BN "Read" 90 [("__init__","Read.__init__",["self","box"],92,2,[]),("step","Read.step",["self","boxes","store"],96,3,[]),("words","Read.words",["self"],99,1,[])] ["box"]::
uV 312 581 23 BN "Write" 101 [("__init__","Write.__init__",["self","box"],103,2,[]),("step","Write.step",["self","boxes","store"],107,3,[]),("words","Write.words",["self"],110,1,[])] ["box"]::
iE "MOST_HOPPED" 625 (.int 24 624)::
iF 345 626 26 Ip "is_many" ["thing"] 114 1::
iF 352 633 27 Ip "is_on" ["thing"] 116 1::
uV 359 640 28 Ip "Hop" 118 [("__init__","Hop.__init__",["self","many","on"],120,3,[(⟨.type "tuple",none,.seq #[.none] 0,#[]⟩,0)]),("step","Hop.step",["self","boxes","store"],126,3,[]),("words","Hop.words",["self","told"],129,1,[])] ["many","on"]::[]
abbrev kf:List It:=
iC 393 686 30 HK "Do" 135 [("__init__","Do.__init__",["self","name"],137,2,[]),("told","Do.told",["self"],140,1,[])] ["called"]::
iC 421 722 31 HK "Times" 142 [("__init__","Times.__init__",["self","many","block"],144,3,[]),("told","Times.told",["self"],148,1,[])] ["block","many"]::
iC 449 760 32 HK "When" 150 [("__init__","When.__init__",["self","on","block","other"],152,4,[(⟨.type "tuple",none,.seq #[.none] 0,#[]⟩,0)]),("told","When.told",["self"],157,1,[])] ["block","on","other"]::
uV 478 802 34 EM "Copy" 160 [("step","Copy.step",["self","boxes","store"],162,3,[]),("words","Copy.words",["self"],165,1,[])] []::
uV 504 834 35 EM "Fill" 167 [("step","Fill.step",["self","boxes","store"],169,3,[]),("words","Fill.words",["self"],172,1,[])] []::
uV 530 866 36 EM "Seek" 174 [("step","Seek.step",["self","boxes","store"],176,3,[]),("words","Seek.words",["self"],179,1,[])] []::
uV 556 898 37 EM "Match" 181 [("step","Match.step",["self","boxes","store"],183,3,[]),("words","Match.words",["self"],186,1,[])] []::
uV 582 930 38 EM "Shift" 188 [("step","Shift.step",["self","boxes","store"],190,3,[]),("words","Shift.words",["self"],193,1,[])] []::
uV 608 962 39 EM "Turn" 195 [("step","Turn.step",["self","boxes","store"],197,3,[]),("words","Turn.words",["self"],200,1,[])] []::
iE "LETTERS" 997 (.str "abcdefghijklmnopqrstuvwxyz" 996)::
iE "LONGEST_NAME" 999 (.int 8 998)::
iF 634 1000 43 JM "is_name" [] 205 1::
iE "FIGURES" 1009 (.str "0123456789" 1008)::
iE "MOST_FIGURES" 1011 (.int 10 1010)::
iF 639 1012 47 IC "is_written" [] 212 1::
iF 644 1018 48 IC "number_of" ["word"] 219 1::
iC 651 1025 49 IC "Reader" 221 [("__init__","Reader.__init__",["self","text"],223,2,[]),("ahead","Reader.ahead",["self"],229,1,[]),("take","Reader.take",["self","stands","word"],232,2,[]),("skips","Reader.skips",["self","word"],239,2,[]),("take_word","Reader.take_word",["self","word"],245,2,[]),("take_any","Reader.take_any",["self"],248,1,[]),("take_name","Reader.take_name",["self"],251,1,[]),("take_box","Reader.take_box",["self"],254,1,[]),("take_number","Reader.take_number",["self","low","high","number"],257,3,[]),("take_any_number","Reader.take_any_number",["self"],262,1,[]),("take_fitting","Reader.take_fitting",["self","box"],265,2,[]),("take_leaves","Reader.take_leaves",["self"],268,1,[]),("ended","Reader.ended",["self"],271,1,[]),("finish","Reader.finish",["self"],274,1,[])] ["at","queue"]::
iE "MOST_TIMES" 1157 (.int 9 1156)::
iE "MOST_ITEMS" 1159 (.int 24 1158)::
iE "DEEPEST" 1161 (.int 4 1160)::
iF 763 1162 54 i9 "long_deed_from" ["reader"] 281 1::
iF 770 1169 55 i9 "hop_from" ["reader","many"] 294 1::
iF 777 1177 56 i9 "deed_from" ["reader"] 299 1::
iF 784 1184 57 i9 "when_from" ["reader","depth","on","block"] 313 2::
iF 791 1194 58 i9 "item_from" ["reader","depth"] 319 2::
iF 798 1202 59 i9 "items_from" ["reader","depth","items"] 327 2::
iF 805 1211 60 i9 "block_from" ["reader"] 338 1::
iF 812 1218 61 i9 "read_block" ["text","reader","block"] 340 1::
iF 819 1227 62 i9 "when_words" ["when","told"] 345 1::
iF 826 1235 63 i9 "item_words" ["item"] 351 1::
iF 833 1242 64 i9 "block_words" ["block","told","place","item"] 359 1::
iF 840 1252 65 i9 "show_block" ["block"] 367 1::
iF 847 1261 67 bK "_law_hand" ["_law_script","_law_cells","_law_fold","_law_cell"] 370 1::
iF 854 1271 68 bK "_law_draw" ["_law_hand_here","_law_many","_law_rest","_law_cell","_law_one","_law_two"] 376 2::
iF 861 1283 69 bK "_law_spec" ["_law_hand_here","_law_size","_law_way","_law_names","_law_box","_law_pick"] 392 2::
iF 868 1295 70 bK "_law_words" [] 410 1::
iF 873 1301 71 bK "_law_name" [] 415 1::
iF 878 1307 72 bK "_law_block" ["_law_hand_here","_law_deep","_law_room","_law_block_here","_law_k"] 421 3::
iF 885 1318 73 bK "_law_item" ["_law_hand_here","_law_deep","_law_room","_law_way","_law_other_here"] 428 3::
iF 892 1329 74 bK "_law_item_text" ["_law_item_here","_law_text_here"] 440 1::
iF 899 1337 75 bK "_law_text" [] 451 1::
iF 904 1343 76 bK "_law_is" [] 455 2::
iF 909 1349 77 bK "_law_is_item" ["_law_thing","_law_item_here"] 459 2::
iF 916 1357 78 bK "_law_number_at" [] 471 4::
iF 921 1363 79 bK "_law_read_hop" ["_law_words_here","_law_at","_law_many","_law_on"] 479 2::
iF 928 1373 80 bK "_law_read_deed" ["_law_words_here","_law_at","_law_kinds","_law_spec_here","_law_kind","_law_part"] 489 2::
iF 935 1385 81 bK "_law_read_when" ["_law_words_here","_law_at","_law_deep","_law_on","_law_block_here","_law_other_here"] 508 3::
iF 942 1397 82 bK "_law_read_item" [] 521 3::
iF 947 1403 83 bK "_law_read_block" ["_law_words_here","_law_at","_law_deep","_law_block_here","_law_turn","_law_item_here"] 540 3::
iF 954 1415 84 bK "_law_read" ["_law_text_here","_law_words_here","_law_block_here","_law_at"] 556 1::
iF 961 1425 85 bK "_law_told" ["_law_text_here","_law_items","e"] 562 1::
iF 968 1434 86 bK "_law_right" ["_law_text_here","_law_block_here","_law_at","_law_turn","_law_found"] 570 1::
iF 975 1445 87 bK "_law_sign" ["_law_hand_here","_law_word","_law_signs","_law_way","_law_at"] 582 2::
iF 982 1456 88 bK "_law_other" ["_law_hand_here","_law_some"] 589 1::
iF 989 1464 89 bK "_law_spoilt" ["_law_hand_here","_law_text_here","_law_way","_law_words_here","_law_at","_law_moved","_law_more"] 595 2::[]
abbrev Ju (P:Params):List Obj:=oW [(12,⟨.none,none,.fields (Jd Ja),#[]⟩),(175,⟨.type "type",none,.cls ⟨"Deed",[.type "object"],[.ref 175,.type "object"],174,"Deed",true,[],[.ref 210,.ref 243,.ref 276,.ref 309,.ref 342,.ref 390],false,none,false⟩,#[none,none,some (.str "Deed" 391),some (.str "Deed" 399),some (.builtin "object.__new__"),some (.bool true)]⟩)] (Hr P "haulbell.hops" 622 33 Dt)
abbrev Jw (P:Params):List Obj:=oW [(12,⟨.none,none,.fields (Jd Jx),#[]⟩)] (Hr P "law_haulbell_k92_no_blocks" 1259 88 (Dt++kf))
abbrev S0 (P:Params)(os:OsState):SharedT:=⟨Fm 0 .nil (JI P),15,(boot_heap P).life,Array.mk [],boot_drawn,187,os⟩
abbrev q0:Pos:=⟨0,0,0,0⟩
abbrev S1 (P:Params)(os:OsState):SharedT:=⟨Fm 0 .nil (Ju P),393,(boot_heap P).life,Array.mk [],boot_drawn,684,os⟩
abbrev q1:Pos:=⟨118,0,133,19⟩
abbrev S2 (P:Params)(os:OsState):SharedT:=⟨Fm 0 .nil (Jw P),996,(boot_heap P).life,Array.mk [],boot_drawn,1477,os⟩
abbrev q2:Pos:=⟨595,0,618,36⟩
abbrev Jr (P:Params):List Obj:=Hr P "law_haulbell_k92_no_blocks" 1259 89 (Dt++kf++[iF 996 1477 90 bK "law" [] 619 1])
abbrev K0 (P:Params):PySem.W.Frag:=Hc.map λa=>(a,(Jr P).getD a oN)
abbrev nu (p:Program):Program:=PySem.W.view p [90]
abbrev x9:List Str:="_wall"::"HaulError"::"NoDeed"::"NoName"::"NoFlat"::"NoText"::"NoRow"::"BOUND"::"is_whole"::"NAMES"::"is_box"::"is_number"::"check_box"::"check_number"::"Deed"::"Set"::"Add"::"Take"::"Read"::"Write"::"MOST_HOPPED"::"is_many"::"is_on"::"Hop"::"Do"::"Times"::"When"::"Copy"::"Fill"::"Seek"::"Match"::"Shift"::"Turn"::"LETTERS"::"LONGEST_NAME"::"is_name"::"FIGURES"::"MOST_FIGURES"::"is_written"::"number_of"::"Reader"::"MOST_TIMES"::"MOST_ITEMS"::"DEEPEST"::"long_deed_from"::"hop_from"::"deed_from"::"when_from"::"item_from"::"items_from"::"block_from"::"read_block"::"when_words"::"item_words"::"block_words"::"show_block"::"_law_hand"::"_law_draw"::"_law_spec"::"_law_words"::"_law_name"::"_law_block"::"_law_item"::"_law_item_text"::"_law_text"::"_law_is"::"_law_is_item"::"_law_number_at"::"_law_read_hop"::"_law_read_deed"::"_law_read_when"::"_law_read_item"::"_law_read_block"::"_law_read"::"_law_told"::"_law_right"::"_law_sign"::"_law_other"::"_law_spoilt"::[]
end My
open PySem PySem.W in
set_option maxHeartbeats 0 in
def My.D3 (w:World)(os:OsState):My.runK treeTable My.pr w 11 (some (.ref 6)) 12 (My.G7 w.params os) (topStub My.pr)=some (My.S0 w.params os,⟨denote treeTable (.body (ac My.pr) (My.iq My.pr)),.body (ac My.pr) (My.iq My.pr),default,[My.Jb]⟩):=by
  delta My.pr;rewrite[Fast.te2368527892694137696,Fast.te14364793385576792824]
  kernel_rfl
open PySem PySem.W in
set_option maxHeartbeats 0 in
def My.CI (w:World)(os:OsState)(B:List Stmt):My.runK treeTable My.pr w 11 (some (.ref 6)) 3778 (My.S0 w.params os) (My.pW My.pr (((ac My.pr).drop 0).take 29++B) My.q0)=some (My.S1 w.params os,My.pW My.pr B My.q1):=
  byRow2 (P:=λw=>My.runK treeTable My.pr w 11 (some (.ref 6)) 3778 (My.S0 w.params os) (My.pW My.pr (((ac My.pr).drop 0).take 29++B) My.q0)=some (My.S1 w.params os,My.pW My.pr B My.q1)) "special-get-raises"
   (λw=>by
    delta My.pr;rewrite[Fast.te2368527892694137696,Fast.te14364793385576792824]
    kernel_rfl)
   (λw=>by
    delta My.pr;rewrite[Fast.te2368527892694137696,Fast.te14364793385576792824]
    kernel_rfl) w
open PySem PySem.W in
set_option maxHeartbeats 0 in
def My.Ey (w:World)(os:OsState)(B:List Stmt):My.runK treeTable My.pr w 11 (some (.ref 6)) 4325 (My.S1 w.params os) (My.pW My.pr (((ac My.pr).drop 29).take 61++B) My.q1)=some (My.S2 w.params os,My.pW My.pr B My.q2):=by
  delta My.pr;rewrite[Fast.te2368527892694137696,Fast.te14364793385576792824]
  kernel_rfl
open PySem PySem.W in
set_option maxHeartbeats 0 in
def My.Ge:LeftO My.pr (My.nu My.pr) My.x9 (λs=>xlAt (My.nu My.pr) [] s&&recOk PySem.Challenge.rw_haulbell_k92_no_blocks.row.records s) (λs=>My.Hc.map s.heap.get?) (λw=>(My.K0 w.params).map λp=>some p.2) 16384:=by
  refine My.uJ (by kernel_rfl) rfl (λ_=>by kernel_rfl) (λ_=>by kernel_rfl) (λ_=>by kernel_rfl) λw os=>?_
  have d:denote treeTable (.body (ac My.pr) (My.iq My.pr))=My.Af My.pr (ac My.pr):=My.xD (by kernel_rfl);have e:My.kh treeTable My.pr w 11 (some (.ref 6)) (12+(3778+(4325+(8269)))) (My.G7 w.params os) (topStub My.pr)=My.kh treeTable My.pr w 11 (some (.ref 6)) 8269 (My.S2 w.params os) (My.pW My.pr ((ac My.pr).drop 90) My.q2):=by
    rw[My.eE (My.D3 w os)];dsimp only;rw[d];show My.kh treeTable My.pr w 11 (some (.ref 6)) _ (My.S0 w.params os) (My.pW My.pr ((ac My.pr).drop 0) My.q0)=_;rw[show(ac My.pr).drop 0=((ac My.pr).drop 0).take 29++(ac My.pr).drop 29 from by
      rw[show(ac My.pr).drop 29=((ac My.pr).drop 0).drop 29 by rw[List.drop_drop],List.take_append_drop],My.eE (My.CI w os _)]
    rw[show(ac My.pr).drop 29=((ac My.pr).drop 29).take 61++(ac My.pr).drop 90 from by
      rw[show(ac My.pr).drop 90=((ac My.pr).drop 29).drop 61 by rw[List.drop_drop],List.take_append_drop],My.eE (My.Ey w os _)]
  rw[show(16384:Nat)=12+(3778+(4325+(8269))) from rfl,e]
  delta My.pr;rewrite[Fast.te4187177175401517315,Fast.te5923862056798008813,Fast.te2368527892694137696,Fast.te14364793385576792824]
  kernel_rfl
set_option Elab.async false
open List(mem_range filterMap_cons mem_cons_self mem_cons_of_mem mem_cons mem_append mem_append_left getElem?_set_self getElem?_set_ne mem_append_right size_toArray any_eq_false length_cons map_cons length_map append_nil nodup_cons of_mem_zip length_take getElem?_append_right getElem?_append_left getElem?_map take_sublist mem_of_getElem? length_append length_drop length_set all_cons any_cons length_singleton find?_cons length_nil cons_append forIn_cons nil_append forIn_nil getElem?_eq_getElem drop_zero lookup_cons take_of_length_le length_eq_zero_iff all_eq_true not_mem_nil drop_eq_getElem_cons zip_cons_cons foldl_cons append_assoc zip_append take_append_drop isEmpty_iff map_append length_pos_iff take_add_one getElem?_eq_none mem_singleton sum_cons flatten_cons cons_ne_nil take_succ drop_of_length_le map_drop)
@[reducible]def JT:Type:=Unit->PySem.Shared->Prop
@[reducible]def JU:Type:=PySem.Value->PySem.Shared->Prop
@[reducible]def JV:Type:=List (PySem.Addr×PySem.Obj)
@[reducible]def JW:Type:=PySem.Str->Option PySem.Value
namespace L2
open PySem PySem.Spec PyProof.Rows
@[reducible]def Key:=Sum Int Str
abbrev kO:Key->Value->Bool
 | .inl k,v=>Value.isInt k v
 | .inr x,v=>Value.isStrOf x v
abbrev HJ (w:World):Key->Int
 | .inl k=>hashInt k
 | .inr x=>hashStr w x
def aF:∀ {k:Key}{v:Value},kO k v=true->(∃ i t,k=Sum.inl i/\v=Value.int i t)\/(∃ x t,k=Sum.inr x/\v=Value.str x t)
 | .inl i,v,h=>by
  obtain⟨t,e⟩:=Value.isInt_shape (k:=i) (v:=v) h;exact .inl ⟨i,t,rfl,e⟩
 | .inr x,v,h=>by
  obtain⟨t,e⟩:=Value.isStrOf_shape (x:=x) (v:=v) h;exact .inr ⟨x,t,rfl,e⟩
def uE (i:Int)(t:Tok):kO (.inl i) (.int i t)=true:=by simp[kO,Value.isInt]
def tZ (x:Str)(t:Tok):kO (.inr x) (.str x t)=true:=by simp[kO,Value.isStrOf]
def Dj (a b:Int):decide ((Sum.inl a:Key)=Sum.inl b)=(a ==b):=by
 by_cases e:a=b
 .subst e;simp
 .have h:¬ (Sum.inl a:Key)=Sum.inl b:=λq=>e (Sum.inl.inj q)
  rw[decide_eq_false h];exact(beq_eq_false_iff_ne.mpr e).symm
def Ej (a b:Str):decide ((Sum.inr a:Key)=Sum.inr b)=decide (a=b):=by
 by_cases e:a=b
 .subst e;simp
 .have h:¬ (Sum.inr a:Key)=Sum.inr b:=λq=>e (Sum.inr.inj q)
  rw[decide_eq_false h,decide_eq_false e]
def Cn (a:Int)(b:Str):decide ((Sum.inl a:Key)=Sum.inr b)=false:=decide_eq_false (λq=>nomatch q)
def Ck (a:Str)(b:Int):decide ((Sum.inr a:Key)=Sum.inl b)=false:=decide_eq_false (λq=>nomatch q)
abbrev aJ (prog:Program)(w:World):PySem.KeyKind prog w Key where
 is:=kO
 hash:=HJ w
 inj:=λv a b ha hb=>by
  rcases aF ha with⟨i,t,rfl,rfl⟩|⟨x,t,rfl,rfl⟩
  .rcases aF hb with⟨j,u,rfl,e⟩|⟨y,u,rfl,e⟩
   .injection e with e1 _;rw[e1]
   .exact nomatch e
  .rcases aF hb with⟨j,u,rfl,e⟩|⟨y,u,rfl,e⟩
   .exact nomatch e
   .injection e with e1 _;rw[e1]
 byValue:=λk v h=>by
  rcases aF h with⟨i,t,rfl,rfl⟩|⟨x,t,rfl,rfl⟩<;>rfl
 pyHash:=λhv h=>by
  rcases aF hv with⟨i,t,rfl,rfl⟩|⟨x,t,rfl,rfl⟩
  .exact wpAny_pyHash_int h
  .exact wpAny_pyHash_str h
 eqBool:=λhu hv h=>by
  rcases aF hu with⟨i,t,rfl,rfl⟩|⟨x,t,rfl,rfl⟩
  .rcases aF hv with⟨j,u,rfl,rfl⟩|⟨y,u,rfl,rfl⟩
   .rw[Dj]at h;exact wpAny_eqBool_int h
   .rw[Cn]at h;exact SeqAt.EqAt.int_str i t y u _ _ _ _ h
  .rcases aF hv with⟨j,u,rfl,rfl⟩|⟨y,u,rfl,rfl⟩
   .rw[Ck]at h;exact SeqAt.EqAt.str_int x t j u _ _ _ _ h
   .rw[Ej]at h;exact wpAny_eqBool_str h
 «strs»:=λk x t v h=>by
  rcases aF h with⟨i,u,rfl,e⟩|⟨y,u,rfl,e⟩
  .exact nomatch e
  .injection e with e1 _
   subst e1;cases v<;>rfl
def nB (prog:Program)(w:World)(i:Int)(t:Tok):(aJ prog w).is (.inl i) (.int i t)=true:=uE i t
def pA (prog:Program)(w:World)(x:Str)(t:Tok):(aJ prog w).is (.inr x) (.str x t)=true:=tZ x t
inductive V where
 |non|bl (b:Bool)|int (i:Int)|str (x:Str)|byt (b:Array UInt8)|flt (b:UInt64)|ref (a:Addr)|ty (n:String)
 deriving DecidableEq
abbrev RelV:V->Value->Prop
 | .non,u=>u=Value.none
 | .bl b,u=>u=Value.bool b
 | .int i,u=>∃ t,u=Value.int i t
 | .str x,u=>∃ t,u=Value.str x t
 | .byt b,u=>∃ t,u=Value.bytes b t
 | .flt b,u=>∃ t,u=Value.float b t
 | .ref a,u=>u=Value.ref a
 | .ty n,u=>u=Value.type n
@[reducible]def Vals:List V->List Value->Prop:=Paired RelV
variable {xs:List V}{us:List Value}
def Vals.length (r:Vals xs us):xs.length=us.length:=Paired.length r
def Vals.get:∀ {xs:List V}{us:List Value}{i:Nat}{x:V},Vals xs us->xs[i]? =some x->∃ u,us[i]? =some u/\RelV x u
 |_,_,_,_,.nil,e=>by simp at e
 |_,_,0,_,.cons r _,e=>by simp at e;subst e;exact⟨_,rfl,r⟩
 |_,_,i+1,x,.cons _ t,e=>by
  obtain⟨u,h1,h2⟩:=Vals.get (i:=i) (x:=x) t (by simpa using e);exact⟨u,by simpa using h1,h2⟩
variable {u:Value}
def Vals.set {x:V}(r:RelV x u):∀ {xs:List V}{us:List Value}(i:Nat),Vals xs us->Vals (xs.set i x) (us.set i u)
 |_,_,_,.nil=>.nil
 |_,_,0,.cons _ t=>.cons r t
 |_,_,i+1,.cons q t=>.cons q (Vals.set r i t)
def Vals.append:∀ {xs ys:List V}{us ws:List Value},Vals xs us->Vals ys ws->Vals (xs++ys) (us++ws)
 |_,_,_,_,.nil,s=>s
 |_,_,_,_,.cons r t,s=>.cons r (Vals.append t s)
def Vals.take:∀ {xs:List V}{us:List Value}(n:Nat),Vals xs us->Vals (xs.take n) (us.take n)
 |_,_,0,_=>.nil
 |_,_,_+1,.nil=>.nil
 |_,_,n+1,.cons r t=>.cons r (Vals.take n t)
def Vals.drop:∀ {xs:List V}{us:List Value}(n:Nat),Vals xs us->Vals (xs.drop n) (us.drop n)
 |_,_,0,r=>r
 |_,_,_+1,.nil=>.nil
 |_,_,n+1,.cons _ t=>Vals.drop n t
abbrev cV:Option V->Option Value->Prop
 |some v,some u=>RelV v u
 |none,none=>True
 |_,_=>False
abbrev KV {κ:Type}:List (κ×V)->List (κ×Value)->Prop:=Paired λ(p:κ×V) (q:κ×Value)=>p.1=q.1/\RelV p.2 q.2
abbrev kV:Key->V
 | .inl i=>.int i
 | .inr x=>.str x
inductive HO where
  |lst (xs:List V)
  |tup (xs:List V)
  |dK (kvs:List (Key×V))|dT (kvs:List (List Key×V))
  |set (S:Int->Bool) (n:Nat)
  |ins (C dx:Addr) (fs:List (Str×V))
  |own (x:Addr)
  |exc (C:Addr) (dx:Option Addr) (fs:List (Str×V)) (fr:Bool)
  |xd (fs:List (Str×V))
  |met (f x:Addr)
  |rng (lo hi:Int)
  |ji (o:Obj) (u:HO)
  |tbl (ps:Array Value)
  |ext (φ:Heap->Prop)
@[reducible]def Hp:=Addr->Option HO
abbrev upd (H:Hp)(a:Addr)(o:HO):Hp:=λb=>if b=a then some o else H b
variable {H:Hp}{a:Addr}{o:HO}
def ar:upd H a o a=some o:=by unfold upd;rw[if_pos rfl]
variable {b:Addr}
def ag (h:b≠a):upd H a o b=H b:=by unfold upd;rw[if_neg h]
def AS {u:HO}:upd (upd H a o) a u=upd H a u:=by
 funext b;unfold upd;split<;>rfl
def GS {u:HO}(h:H a=some o)(h':H b=some u)(d:o≠u):a≠b:=by
 intro e;subst e;rw[h]at h';exact d (Option.some.inj h')
def aM (h:H a=some o)(h':H b=none):a≠b:=by
 intro e;subst e;rw[h]at h';cases h'
section
variable (P:Program) (w:World)
abbrev ax (H:Hp)(h:Heap)(a:Addr):HO->Prop
 | .lst xs=>xs.length<=ce/\∃ (its:List Value) (n:Nat),Vals xs its/\h.get? a=some { cls:=.type "list",data:=.seq its.toArray n }
 | .tup xs=>xs.length<=ce/\∃ its:List Value,Vals xs its/\IsTup h a its.toArray
 | .dK kvs=>kvs.length<=ce/\(a ==sysModules)=false/\∃ vs,KV kvs vs/\h.DictOf (aJ P w) a vs
 | .dT kvs=>kvs.length<=ce/\(a ==sysModules)=false/\∃ xs:List (List Key×Addr×Value),
   Paired (λ(p:List Key×V) (q:List Key×Addr×Value)=>p.1=q.1/\H q.2.1=some (.tup (p.1.map kV))/\RelV p.2 q.2.2) kvs xs/\
   ∃ o es ep,h.get? a=some o/\o.ExactDict/\o.data=.dict es ep/\es.toList=xs.map (entryOfKey (tupleKind (aJ P w)))/\(xs.map (·.1)).Nodup
 | .set S n=>h.SetOf (intKind P w) a S n
 | .ins C dx fs=>H dx=some (.own a)/\fs.length<=1000/\dx≠a/\h.get? a=some (W.instObj C dx)/\
   ∃ mA,h.Ns1 dx mA/\(∀ f,cV (fs.lookup f) (mA f))/\PySem.Within mA (fs.map (·.1))
 | .exc C dx fs fr=>(∃ vs,h.get? a=some { cls:=.ref C,dict:=dx,data:=.fields vs }/\vs.size=6/\(fr=true->vs[1]? =some Value.none))/\
   ((dx=none/\fs=[])\/∃ d,dx=some d/\H d=some (.own a)/\fs.length<=1000/\d≠a/\∃ mA,h.Ns1 d mA/\(∀ f,cV (fs.lookup f) (mA f))/\PySem.Within mA (fs.map (·.1)))
 | .own _=>∃ o,h.get? a=some o
 | .xd fs=>∃ mA,h.Ns1 a mA/\∀ f,cV (fs.lookup f) (mA f)
 | .rng lo hi=>∃ t u v,h.get? a=some { cls:=.type "range",data:=.fields #[.int lo t,.int hi u,.int 1 v] }
 | .ji o u=>h.get? a=some o/\ax H h a u
 | .tbl ps=>h.get? a=some { cls:=.none,data:=.fields ps }
 | .met f x=>h.get? a=some (W.methodObj (.ref f) (.ref x))
 | .ext φ=>φ h/\(∃ o,h.get? a=some o)/\∀ h1 h2:Heap,φ h1->(∀ o,h1.get? a=some o->h2.get? a=some o)->φ h2
abbrev fq (H:Hp)(h:Heap):Prop:=∀ a o,H a=some o->ax P w H h a o
end
section
variable {P:Program}{w:World}{H H':Hp}{h h':Heap}{a:Addr}{o:HO}
def ax.lt (x:ax P w H h a o):a<h.objs.size:=by
 cases o with
 |lst xs=>obtain⟨_,_,_,_,e⟩:=x;exact u8 e
 |tup xs=>obtain⟨_,_,_,p⟩:=x;exact p.lt
 |dK kvs=>obtain⟨_,_,_,_,o,_,_,e,_⟩:=x;exact u8 e
 |dT kvs=>obtain⟨_,_,_,_,o,_,_,e,_⟩:=x;exact u8 e
 |set S n=>obtain⟨o,_,_,_,e,_⟩:=x;exact u8 e
 |ins C dx fs=>obtain⟨_,_,_,e,_⟩:=x;exact u8 e
 |exc C dx fs fr=>obtain⟨⟨_,e,_⟩,_⟩:=x;exact u8 e
 |own y=>obtain⟨_,e⟩:=x;exact u8 e
 |xd fs=>obtain⟨_,⟨_,_,_,e,_⟩,_⟩:=x;exact u8 e
 |rng lo hi=>obtain⟨_,_,_,e⟩:=x;exact u8 e
 |ji ob u=>obtain⟨e,_⟩:=x;exact u8 e
 |tbl ps=>exact u8 (show h.get? a=some _ from x)
 |met f y=>exact u8 (show h.get? a=some _ from x)
 |ext φ=>obtain⟨_,⟨_,e⟩,_⟩:=x;exact u8 e
def Paired.Em {α β:Type}{F G:α->β->Prop}:∀ {l₁:List α}{l₂:List β},Paired F l₁ l₂->(∀ a b,F a b->G a b)->Paired G l₁ l₂
 |_,_,.nil,_=>.nil
 |_,_,.cons r t,f=>.cons (f _ _ r) (Paired.Em t f)
def ax.eO (x:ax P w H h a o)(k:∀ b u,(b=a\/H b=some (.own a))->h.get? b=some u->h'.get? b=some u)
  (ho:∀ b,H b=some (.own a)->H' b=some (.own a)) (ht:∀ b xs,H b=some (.tup xs)->H' b=some (.tup xs)):ax P w H' h' a o:=by
 induction o with
 |lst xs=>obtain⟨z,its,n,r,e⟩:=x;exact⟨z,its,n,r,k _ _ (.inl rfl) e⟩
 |tup xs=>obtain⟨z,its,r,ob,e,c⟩:=x;exact⟨z,its,r,ob,k _ _ (.inl rfl) e,c⟩
 |dK kvs=>obtain⟨z,y,vs,r,ob,es,ep,e,c⟩:=x;exact⟨z,y,vs,r,ob,es,ep,k _ _ (.inl rfl) e,c⟩
 |dT kvs=>
  obtain⟨z,y,xs,r,ob,es,ep,e,c⟩:=x;exact⟨z,y,xs,Paired.Em r λp q z=>⟨z.1,ht _ _ z.2.1,z.2.2⟩,ob,es,ep,k _ _ (.inl rfl) e,c⟩
 |set S n=>obtain⟨ob,es,ep,t,e,c⟩:=x;exact⟨ob,es,ep,t,k _ _ (.inl rfl) e,c⟩
 |ins C dx fs=>
  obtain⟨d,z,ne,e,mA,⟨od,es,ep,e2,c⟩,r⟩:=x;exact⟨ho _ d,z,ne,k _ _ (.inl rfl) e,mA,⟨od,es,ep,k _ _ (.inr d) e2,c⟩,r⟩
 |exc C dx fs fr=>
  obtain⟨⟨vs,e,z⟩,q⟩:=x;refine⟨⟨vs,k _ _ (.inl rfl) e,z⟩,?_⟩;rcases q with q|⟨d,ed,d1,z1,ne,mA,⟨od,es,ep,e2,c⟩,r⟩
  .exact .inl q
  .exact .inr ⟨d,ed,ho _ d1,z1,ne,mA,⟨od,es,ep,k _ _ (.inr d1) e2,c⟩,r⟩
 |own y=>obtain⟨ob,e⟩:=x;exact⟨ob,k _ _ (.inl rfl) e⟩
 |xd fs=>obtain⟨mA,⟨od,es,ep,e,c⟩,r⟩:=x;exact⟨mA,⟨od,es,ep,k _ _ (.inl rfl) e,c⟩,r⟩
 |rng lo hi=>obtain⟨t,u,v,e⟩:=x;exact⟨t,u,v,k _ _ (.inl rfl) e⟩
 |ji ob u ih=>obtain⟨e,q⟩:=x;exact⟨k _ _ (.inl rfl) e,ih q⟩
 |tbl ps=>
  have e:h.get? a=some { cls:=.none,data:=.fields ps }:=x;show h'.get? a=some { cls:=.none,data:=.fields ps };exact k a _ (.inl rfl) e
 |met f y=>
  have e:h.get? a=some (W.methodObj (.ref f) (.ref y)):=x;show h'.get? a=some (W.methodObj (.ref f) (.ref y));exact k a _ (.inl rfl) e
 |ext φ=>obtain⟨p,⟨o,e⟩,st⟩:=x;exact⟨st _ _ p λo q=>k _ _ (.inl rfl) q,⟨o,k _ _ (.inl rfl) e⟩,st⟩
def fq.lt (x:fq P w H h)(e:H a=some o):a<h.objs.size:=(x a o e).lt
def fq.fresh (x:fq P w H h)(e:h.objs.size<=a):H a=none:=by
 cases q:H a with
 |none=>rfl
 |some u=>exact absurd (ol (x.lt q) e) (Nat.lt_irrefl _)
def fq.kept (x:fq P w H h)(k:∀ b u,h.get? b=some u->h'.get? b=some u):fq P w H h':=λa o e=>
 (x a o e).eO (λb u _ q=>k b u q) (λ_ q=>q) λ_ _ q=>q
def fq.laid (x:fq P w H h)(k:∀ b u,h.get? b=some u->h'.get? b=some u) (hp:h.objs.size<=a) (new:ax P w (upd H a o) h' a o):fq P w (upd H a o) h':=λb u e=>by
 have hn:=x.fresh hp
 by_cases hb:b=a
 .subst hb;rw[ar]at e;cases e;exact new
 .rw[ag hb]at e;exact(x b u e).eO (λc v _ q=>k c v q) (λc q=>by rw[ag (aM q hn)];exact q) λc xs q=>by rw[ag (aM q hn)];exact q
end
abbrev Rd (H:Hp)(a:Addr)(u:HO):Prop:=H a=some u\/∃ o,H a=some (.ji o u)
variable {P:Program}{w:World}{h:Heap}
def Rd.ok {u:HO}(r:Rd H a u)(x:fq P w H h):ax P w H h a u:=by
 rcases r with r|⟨o,r⟩
 .exact x a u r
 .obtain⟨_,q⟩:=x a _ r;exact q
abbrev Fp:Option HO->Prop
 |some (.lst _)=>True
 |some (.dK _)=>True
 |some (.dT _)=>True
 |some (.set _ _)=>True
 |some (.ins _ _ _)=>True
 |some (.exc _ _ _ _)=>True
 |some (.ext _)=>True
 |_=>False
section
variable {P:Program}{w:World}{H:Hp}{h h':Heap}{x e:Addr}{o':HO}
def fq.write (ok:fq P w H h)(mu:Fp (H x))(he:e=x\/H e=some (.own x))(k:∀ b u,b≠e->h.get? b=some u->h'.get? b=some u) (heo:∃ u,h'.get? e=some u)
  (new:ax P w (upd H x o') h' x o'):fq P w (upd H x o') h':=λb u q=>by
 have nown:∀ c y,H c=some (.own y)->c≠x:=λc y r z=>by subst z;rw[r]at mu;exact mu
 have ntup:∀ c xs,H c=some (.tup xs)->c≠x:=λc xs r z=>by subst z;rw[r]at mu;exact mu
 by_cases hb:b=x
 .subst hb;rw[ar]at q;cases q;exact new
 .rw[ag hb]at q
  by_cases hbe:b=e
  .have q':H b=some (.own x):=by
    rcases he with z|z
    .exact absurd (hbe.trans z) hb
    .rw[hbe];exact z
   rw[q]at q';cases q';obtain⟨v,hv⟩:=heo;exact⟨v,by rw[hbe];exact hv⟩
  .refine(ok b u q).eO (λc v hc r=>k c v ?_ r) (λc r=>by rw[ag (nown c b r)];exact r) λc xs r=>by rw[ag (ntup c xs r)];exact r
   rcases hc with rfl|hc
   .exact hbe
   .rintro rfl;rcases he with z|z
    .exact nown c b hc z
    .rw[hc]at z;cases z;exact hb rfl
end
structure Un (fs ex:List Addr) (H H':Hp) (h h':Heap):Prop where
 keep:∀ b o,h.get? b=some o->H b=none->b ∉ fs->b ∉ ex->h'.get? b=some o
 slot:∀ b o,h.get? b=some o->H b=none->b ∈ fs->b ∉ ex->∃ sl,h'.get? b=some { o with slots:=sl }
 free:∀ b o,h.get? b=some o->H b=none->b ∉ ex->H' b=none
 there:∀ b o,h.get? b=some o->b ∉ ex->∃ o',h'.get? b=some o'
 tups:∀ b xs,H b=some (.tup xs)->H' b=some (.tup xs)
 frzs:∀ b o u,H b=some (.ji o u)->H' b=some (.ji o u)
 tbls:∀ b ps,H b=some (.tbl ps)->∃ more,H' b=some (.tbl (ps++more))
section
variable {fs fs' ex ex':List Addr}{H H1 H2:Hp}{h h1 h2 h':Heap}{a x e:Addr}{o:HO}
def Un.any (u:Un fs ex H H1 h h1){ob:Obj}(q:h.get? b=some ob)(n:H b=none)(hx:b ∉ ex):∃ sl,h1.get? b=some { ob with slots:=sl }:=by
 by_cases hb:b ∈ fs
 .exact u.slot b ob q n hb hx
 .exact⟨ob.slots,u.keep b ob q n hb hx⟩
def Un.kept (k:∀ b u,h.get? b=some u->h'.get? b=some u):Un fs ex H H h h':=
 ⟨λb ob q _ _ _=>k b ob q,λb ob q _ _ _=>⟨ob.slots,k b ob q⟩,λ_ _ _ n _=>n,λb ob q _=>⟨ob,k b ob q⟩,λ_ _ q=>q,λ_ _ _ q=>q,λ_ ps q=>⟨#[],by rw[q];simp⟩⟩
def Un.refl:Un fs ex H H h h:=Un.kept λ_ _ q=>q
def Un.laid (k:∀ b u,h.get? b=some u->h'.get? b=some u) (hp:h.objs.size<=a) (hn:H a=none):Un fs ex H (upd H a o) h h' where
 keep:=λb u q _ _ _=>k b u q
 slot:=λb u q _ _ _=>⟨u.slots,k b u q⟩
 free:=λb u q n _=>by rw[ag (pi (ol (u8 q) hp))];exact n
 there:=λb u q _=>⟨u,k b u q⟩
 tups:=λb xs q=>by rw[ag (aM q hn)];exact q
 frzs:=λb u xs q=>by rw[ag (aM q hn)];exact q
 tbls:=λb ps q=>⟨#[],by rw[ag (aM q hn),q];simp⟩
def Un.write (mu:Fp (H x))(he:e=x\/H e=some (.own x))(k:∀ b u,b≠e->h.get? b=some u->h'.get? b=some u) (heo:∃ u,h'.get? e=some u):Un fs ex H (upd H x o) h h':=by
 have hx:∀ b,H b=none->b≠x:=λb n z=>by subst z;rw[n]at mu;exact mu
 have hb:∀ b,H b=none->b≠e:=λb n z=>by
  subst z;rcases he with r|r
  .exact hx b n r
  .rw[n]at r;cases r
 have hm:∀ b u,H b=some u->¬ Fp (some u)->b≠x:=λb u q nm z=>by subst z;rw[q]at mu;exact nm mu
 refine⟨λb u q n _ _=>k b u (hb b n) q,λb u q n _ _=>⟨u.slots,k b u (hb b n) q⟩,λb u q n _=>by rw[ag (hx b n)];exact n,λb u q _=>?_,
  λb xs q=>by rw[ag (hm b _ q λz=>z)];exact q,λb u xs q=>by rw[ag (hm b _ q λz=>z)];exact q,λb ps q=>⟨#[],by rw[ag (hm b _ q λz=>z),q];simp⟩⟩
 by_cases hbe:b=e
 .subst hbe;exact heo
 .exact⟨u,k b u hbe q⟩
end
abbrev BO (h:Heap)(H:Hp):List Addr:=(List.range h.objs.size).filter λa=>(H a).isSome
abbrev lz (h:Heap)(H:Hp):Heap:=W.hideAll h (BO h H)
def uw (h:Heap)(H:Hp):(lz h H).objs.size=h.objs.size:=W.hideAll_size _ _
def yk {o:Obj}(e:h.get? b=some o)(n:H b=none):(lz h H).get? b=some o:=
 W.hideAll_get _ e λhm=>by
  have q:(H b).isSome=true:=(List.mem_filter.mp hm).2;rw[n]at q;simp at q
def A1 {o:Obj}(e:(lz h H).get? b=some o):h.get? b=some o/\H b=none:=by
 have e':h.get? b=some o:=W.of_hideAll (BO h H) e;refine⟨e',?_⟩;cases q:H b with
 |none=>rfl
 |some x=>
  have hm:b ∈ BO h H:=List.mem_filter.mpr ⟨mem_range.mpr (u8 e'),by simp[q]⟩;have z:(lz h H).get? b=none:=W.hideAll_none (BO h H) hm;rw[z]at e;cases e
structure Mod (K:W.Frag) (mg:JW) (base:Heap):Prop where
 kin:K.In base
 glob:base.Ns mainGlobals mg
 blt:∃ mb,base.Ns builtinsNs mb/\∀ x:Str,x≠"__name__"->mb x=bootBuiltins x
 nolimit:base.NoLimit
/-- the context:a def's body (or a comprehension's block) running. base:fixed through the whole law;s₀,H₀:the entry;outer:the frames whose slots others may change (a def's callers);stack:all frames that run;
  ex:iterators that were made ahead of the entry and are walked here (a comprehension's);fn:the names whose cells were made at the entry (a def:all;a comprehension's block:its own);calm:not within an except a9;pn:Y that every state bears;xe:what is wanted of an exception that leaves the code -/
structure Cx where
 prog:Program
 w:World
 K:W.Frag
 mg:Str->Option Value
 base:Heap
 A:Around
 N:List Str
 s₀:Shared
 H₀:Hp
 env:Env
 outer:List Env
 stack:List Env
 ex:List Addr
 fn:Str->Bool
 calm:Bool
 pn:List (Addr×Obj)
 xe:Value->Shared->Prop
abbrev mi (l:List Env):List Addr:=l.filterMap (·.frame)
noncomputable abbrev Cx.fs (X:Cx):List Addr:=mi X.outer
abbrev GD (sc:Scope)(x:Str):Prop:=sc.names.lookup x=some .local\/sc.names.lookup x=some .cell\/sc.names.lookup x=some .free
abbrev Loc (sc:Scope)(x:Str):Prop:=sc.names.lookup x=some .local\/sc.names.lookup x=some .cell
abbrev Look (env:Env)(h:Heap)(m:JW)(x:Str)(u:Value):Prop:=
 (env.kindOf x=some .local/\m x=some u)\/((env.kindOf x=some .cell\/env.kindOf x=some .free)/\∃ c,env.cells.lookup x=some c/\h.IsCell c (some u))
structure Cx.Ok (X:Cx):Prop where
 mod:Mod X.K X.mg X.base
 kind:X.env.scope.kind=.function
 glob:X.env.globals=mainGlobals
 blt:X.env.builtins=builtinsNs
 above:X.s₀.heap.objs.size<=X.env.locals
 inj:∀ x y c,X.env.cells.lookup x=some c->X.env.cells.lookup y=some c->x=y
 has:∀ x,(X.env.kindOf x=some .cell\/X.env.kindOf x=some .free)->∃ c,X.env.cells.lookup x=some c
 cab:∀ x c,X.fn x=true->X.env.cells.lookup x=some c->X.s₀.heap.objs.size<=c
 hd:X.calm=true->X.A.handled=none
 frames:X.A.frames=some X.stack
 stk:X.stack=X.outer\/(X.stack=X.env::X.outer/\X.env.frame=some X.env.locals)
 exf:∀ b ∈ X.ex,b≠X.env.locals/\∀ x c,X.env.cells.lookup x=some c->c≠b
 bs:∀ b o,X.base.get? b=some o->X.s₀.heap.get? b=some o/\X.H₀ b=none
 bsz:X.base.objs.size<=X.s₀.heap.objs.size
 noex:∀ b o,X.base.get? b=some o->b ∉ X.ex
 exfs:∀ b ∈ X.ex,b ∉ X.fs
 hR:X.s₀.heap.FunFrames X.base X.outer
 frf:∀ b ∈ X.fs,X.H₀ b=none
structure Inv (X:Cx) (Y:JV) (U:List (Option V)) (H:Hp) (s:Shared):Prop where
 ok:X.Ok
 os:s.os=X.s₀.os
 bare:AllBare s.gens
 base:Un X.fs X.ex X.H₀ H X.s₀.heap s.heap
 loc:∃ m,s.heap.Ns X.env.locals m/\∀ (i:Nat) (x:Str) (v:V),X.N[i]? =some x->U[i]? =some (some v)->GD X.env.scope x->∃ u,RelV v u/\Look X.env s.heap m x u
 cell:∀ x c,X.env.cells.lookup x=some c->∃ v,s.heap.IsCell c v
 free:H X.env.locals=none
 freeC:∀ x c,X.env.cells.lookup x=some c->H c=none
 pin:∀ p ∈ X.pn++Y,s.heap.get? p.1=some p.2/\H p.1=none/\p.1≠X.env.locals/\p.1 ∉ X.fs/\∀ v,p.2.data≠.cell v
 hok:fq X.prog X.w H s.heap
 len:U.length=X.N.length
variable {x:Str}{g':Array GenState}{ch:List Addr}{i:Nat}{M:Model}{A:Around}{E:JU}{v:V}
section
variable {X:Cx}{Y:JV}{U:List (Option V)}{H H':Hp}{s:Shared}{h':Heap}
def Cx.Ok.HG (ok:X.Ok){o:Obj}(e:X.base.get? b=some o):b ∉ X.fs:=λhb=>by
 have:=(ok.hR.mem hb).1;rw[e]at this;cases this
def Inv.bs (I:Inv X Y U H s):∀ b o,X.base.get? b=some o->s.heap.get? b=some o/\H b=none:=λb o e=>
 ⟨I.base.keep b o (I.ok.bs b o e).1 (I.ok.bs b o e).2 (I.ok.HG e) (I.ok.noex b o e),I.base.free b o (I.ok.bs b o e).1 (I.ok.bs b o e).2 (I.ok.noex b o e)⟩
def Inv.bk (I:Inv X Y U H s):∀ b o,X.base.get? b=some o->s.heap.get? b=some o:=λb o e=>(I.bs b o e).1
def Inv.mod (I:Inv X Y U H s):Mod X.K X.mg X.base:=I.ok.mod
def Inv.bw (I:Inv X Y U H s):X.K.In s.heap:=I.ok.mod.kin.keeps I.bk
def Inv.lt (I:Inv X Y U H s):X.env.locals<s.heap.objs.size:=let⟨_,hn,_⟩:=I.loc;hn.lt
def Inv.sz (I:Inv X Y U H s):X.s₀.heap.objs.size<=s.heap.objs.size:=Nat.le_trans I.ok.above (Nat.le_of_lt I.lt)
def Inv.HQ (I:Inv X Y U H s)(h:s.heap.objs.size<=a):a ∉ X.fs:=λhb=>by
 obtain⟨_,o,ho,_⟩:=I.ok.hR.mem hb;exact absurd (ol (u8 ho) (Nat.le_trans I.sz h)) (Nat.lt_irrefl _)
def Inv.xp (I:Inv X Y U H s):∀ x c,X.env.cells.lookup x=some c->c≠X.env.locals:=λx c e z=>by
 obtain⟨v,o,ho,hd⟩:=I.cell x c e;obtain⟨m,⟨o',es,ep,ho',hd',_⟩,_⟩:=I.loc;rw[z,ho']at ho;cases ho;rw[hd']at hd;cases hd
def Inv.hR (I:Inv X Y U H s):s.heap.FunFrames X.base X.outer:=by
 have all:∀ (l:List Env),(∀ b ∈ mi l,b ∈ X.fs)->X.s₀.heap.FunFrames X.base l->s.heap.FunFrames X.base l:=by
  intro l
  induction l with
  |nil=>intro _ _;trivial
  |cons env r ih=>
   intro hs hl;obtain⟨hk,⟨L,o,hf,hn,ho,hd⟩,hr⟩:=hl;have hL:L ∈ X.fs:=hs L (by unfold mi;rw[filterMap_cons,hf];exact lv);obtain⟨sl,e⟩:=I.base.slot L o ho (I.ok.frf L hL) hL λz=>I.ok.exfs L z hL
   exact⟨hk,⟨L,_,hf,hn,e,hd⟩,ih (λb hb=>hs b (by unfold mi;rw[filterMap_cons,hf];exact f8 _ hb)) hr⟩
 exact all X.outer (λ_ hb=>hb) I.ok.hR
def Inv.stack (I:Inv X Y U H s):s.heap.FunFrames X.base X.stack:=by
 rcases I.ok.stk with e|⟨e,hf⟩
 .rw[e];exact I.hR
 .rw[e];obtain⟨m,hn,_⟩:=I.loc;refine .cons (by rw[I.ok.kind];decide) hf hn ?_ I.hR;exact Heap.get?_none_of_le (Nat.le_trans I.ok.bsz I.ok.above)
def Inv.hX (I:Inv X Y U H s):∀ b ∈ mi X.stack,b ∈ X.env.locals::X.fs:=λb hb=>by
 rcases I.ok.stk with e|⟨e,hf⟩
 .rw[e]at hb;exact f8 _ hb
 .rw[e]at hb;unfold mi at hb;rw[filterMap_cons,hf]at hb;exact hb
def Inv.mY (I:Inv X Y U H s):∀ b ∈ mi X.stack,H b=none:=λb hb=>by
 rcases lw.mp (I.hX b hb) with e|hb
 .rw[e];exact I.free
 .obtain⟨_,o,ho,_⟩:=I.ok.hR.mem hb;exact I.base.free b o ho (I.ok.frf b hb) λz=>I.ok.exfs b z hb
def Inv.step {t':Nat}{d':Drawn}(I:Inv X Y U H s)
  (hch:∀ b ∈ ch,(b ∈ X.ex\/X.s₀.heap.objs.size<=b)/\b≠X.env.locals/\(∀ x c,X.env.cells.lookup x=some c->c≠b)/\∀ p ∈ X.pn++Y,p.1≠b)
  (keep:∀ b o,b≠X.env.locals->b ∉ X.fs->b ∉ ch->s.heap.get? b=some o->H b=none->h'.get? b=some o)
  (slot:∀ b o,b≠X.env.locals->b ∈ X.fs->b ∉ ch->s.heap.get? b=some o->H b=none->∃ sl,h'.get? b=some { o with slots:=sl }) (free:∀ b o,b ∉ ch->s.heap.get? b=some o->H b=none->H' b=none)
  (there:∀ b o,b ∉ ch->s.heap.get? b=some o->∃ o',h'.get? b=some o')
  (tups:∀ b xs,H b=some (.tup xs)->H' b=some (.tup xs)) (frzs:∀ b o u,H b=some (.ji o u)->H' b=some (.ji o u)) (tbls:∀ b ps,H b=some (.tbl ps)->∃ more,H' b=some (.tbl (ps++more)))
  (ns:∀ m,s.heap.Ns X.env.locals m->h'.Ns X.env.locals m) (hok:fq X.prog X.w H' h') (hg:AllBare g'):
  Inv X Y U H' { s with heap:=h',gens:=g',drawn:=d',toks:=t' }:=by
 have neL:∀ b o,X.s₀.heap.get? b=some o->b≠X.env.locals:=λb o e=>pi (ol (u8 e) I.ok.above)
 have neC:∀ b o,X.s₀.heap.get? b=some o->b ∉ X.ex->b ∉ ch:=λb o e hx hb=>by
  rcases(hch b hb).1 with z|z
  .exact hx z
  .exact absurd (ol (u8 e) z) (Nat.lt_irrefl _)
 have cellK:∀ x c,X.env.cells.lookup x=some c->∀ v,s.heap.IsCell c v->h'.IsCell c v:=λx c e v ⟨o,ho,hd⟩=>by
  have nch:c ∉ ch:=λz=>(hch c z).2.2.1 x c e rfl
  by_cases hc:c ∈ X.fs
  .obtain⟨sl,q⟩:=slot c o (I.xp x c e) hc nch ho (I.freeC x c e);exact⟨_,q,hd⟩
  .exact⟨o,keep c o (I.xp x c e) hc nch ho (I.freeC x c e),hd⟩
 refine⟨I.ok,I.os,hg,⟨λb o e n hb hx=>?_,λb o e n hb hx=>?_,λb o e n hx=>?_,λb o e hx=>?_,λb xs e=>tups b xs (I.base.tups b xs e),λb o xs e=>frzs b o xs (I.base.frzs b o xs e),λb ps e=>?_⟩,?_,λx c e=>?_,?_,λx c e=>?_,λp hp=>?_,hok,I.len⟩
 .exact keep b o (neL b o e) hb (neC b o e hx) (I.base.keep b o e n hb hx) (I.base.free b o e n hx)
 .obtain⟨sl,e1⟩:=I.base.slot b o e n hb hx;obtain⟨sl',e2⟩:=slot b _ (neL b o e) hb (neC b o e hx) e1 (I.base.free b o e n hx);exact⟨sl',e2⟩
 .obtain⟨o',e1⟩:=I.base.there b o e hx;exact free b o' (neC b o e hx) e1 (I.base.free b o e n hx)
 .obtain⟨o',e1⟩:=I.base.there b o e hx;exact there b o' (neC b o e hx) e1
 .obtain⟨m1,e1⟩:=I.base.tbls b ps e;obtain⟨m2,e2⟩:=tbls b _ e1;exact⟨m1++m2,by rw[e2,Array.append_assoc]⟩
 .obtain⟨m,hn,hl⟩:=I.loc;refine⟨m,ns m hn,λi x v e1 e2 e3=>?_⟩;obtain⟨u,r,l⟩:=hl i x v e1 e2 e3;refine⟨u,r,?_⟩;rcases l with l|⟨k,c,e,z⟩
  .exact .inl l
  .exact .inr ⟨k,c,e,cellK x c e _ z⟩
 .obtain⟨v,z⟩:=I.cell x c e;exact⟨v,cellK x c e v z⟩
 .obtain⟨m,⟨o,_,_,ho,_⟩,_⟩:=I.loc;exact free _ o (λz=>(hch _ z).2.1 rfl) ho I.free
 .obtain⟨v,o,ho,hd⟩:=I.cell x c e;exact free c o (λz=>(hch c z).2.2.1 x c e rfl) ho (I.freeC x c e)
 .obtain⟨e,n,ne,nf,d⟩:=I.pin p hp;have nch:p.1 ∉ ch:=λz=>(hch p.1 z).2.2.2 p hp rfl
  exact⟨keep p.1 p.2 ne nf nch e n,free p.1 p.2 nch e n,ne,nf,d⟩
def Inv.un {t':Nat}(I:Inv X Y U H s)(u:Un X.fs [] H H' s.heap h')(hok:fq X.prog X.w H' h'):Inv X Y U H' { s with heap:=h',toks:=t' }:=by
 obtain⟨m,⟨o,es,ep,ho,r⟩,_⟩:=id I.loc;obtain⟨sl,hL⟩:=u.any ho I.free (by simp);exact I.step (g':=s.gens) (d':=s.drawn) (ch:=[]) (λ_ z=>nomatch z) (λb o _ hb _ e n=>u.keep b o e n hb (by simp)) (λb o _ hb _ e n=>u.slot b o e n hb (by simp)) (λb o _ e n=>u.free b o e n (by simp)) (λb o _ e=>u.there b o e (by simp)) u.tups u.frzs u.tbls (λm' hm=>by
  obtain⟨o',es',ep',ho',r'⟩:=hm;rw[ho]at ho';cases ho';exact⟨_,es',ep',hL,r'⟩) hok I.bare
def Inv.call {t':Nat}{d':Drawn}(I:Inv X Y U H s)(u:Un (mi X.stack) ch H H' s.heap h')(hok:fq X.prog X.w H' h')(hg:AllBare g')
  (hch:∀ b ∈ ch,(b ∈ X.ex\/X.s₀.heap.objs.size<=b)/\b≠X.env.locals/\(∀ x c,X.env.cells.lookup x=some c->c≠b)/\∀ p ∈ X.pn++Y,p.1≠b):
  Inv X Y U H' { s with heap:=h',gens:=g',drawn:=d',toks:=t' }:=by
 obtain⟨m,⟨o,es,ep,ho,r⟩,_⟩:=id I.loc;obtain⟨sl,hL⟩:=u.any ho I.free λz=>(hch _ z).2.1 rfl
 exact I.step (ch:=ch) hch (λb o hL hb hc e n=>u.keep b o e n (λz=>(lw.mp (I.hX b z)).elim hL hb) hc) (λb o _ _ hc e n=>u.any e n hc) (λb o hc e n=>u.free b o e n hc) (λb o hc e=>u.there b o e hc) u.tups u.frzs u.tbls (λm' hm=>by
  obtain⟨o',es',ep',ho',r'⟩:=hm;rw[ho]at ho';cases ho';exact⟨_,es',ep',hL,r'⟩) hok hg
def Inv.turned {t':Nat}{it:Addr}(I:Inv X Y U H s)(k:∀ b o,b≠it->s.heap.get? b=some o->h'.get? b=some o) (hn:H it=none) (hL:it≠X.env.locals)
  (h1:it ∈ X.ex\/X.s₀.heap.objs.size<=it) (h2:∀ x c,X.env.cells.lookup x=some c->c≠it) (h3:∀ p ∈ X.pn++Y,p.1≠it):Inv X Y U H { s with heap:=h',toks:=t' }:=by
 have nit:∀ b u,H b=some u->b≠it:=λb u e z=>by rw[z,hn]at e;cases e
 refine I.step (g':=s.gens) (d':=s.drawn) (ch:=[it]) (λb hb=>?_) (λb o _ _ hc e _=>k b o (λz=>hc (by simp[z])) e) (λb o _ _ hc e _=>⟨o.slots,k b o (λz=>hc (by simp[z])) e⟩) (λ_ _ _ _ n=>n)
  (λb o hc e=>⟨o,k b o (λz=>hc (by simp[z])) e⟩) (λ_ _ e=>e) (λ_ _ _ e=>e) (λb ps e=>⟨#[],by rw[e];simp⟩) (λm hm=>?_) (λb u e=>?_) I.bare
 .have e:b=it:=by simpa using hb
  subst e;exact⟨h1,hL,h2,h3⟩
 .obtain⟨o,es,ep,ho,r⟩:=hm;exact⟨o,es,ep,k _ o (Ne.symm hL) ho,r⟩
 .refine(I.hok b u e).eO (λc v hc q=>k c v ?_ q) (λ_ q=>q) λ_ _ q=>q
  rcases hc with z|z
  .rw[z];exact nit b u e
  .exact nit c _ z
def Inv.tok (I:Inv X Y U H s)(t:Nat):Inv X Y U H { s with toks:=t }:=I.un (h':=s.heap) (t':=t) Un.refl I.hok
def Inv.kept {t':Nat}(I:Inv X Y U H s)(k:∀ b u,s.heap.get? b=some u->h'.get? b=some u):Inv X Y U H { s with heap:=h',toks:=t' }:=I.un (Un.kept k) (I.hok.kept k)
def Inv.laid {t':Nat}(I:Inv X Y U H s)(k:∀ b u,s.heap.get? b=some u->h'.get? b=some u) (hp:s.heap.objs.size<=a) (new:ax X.prog X.w (upd H a o) h' a o):
  Inv X Y U (upd H a o) { s with heap:=h',toks:=t' }:=I.un (Un.laid k hp (I.hok.fresh hp)) (I.hok.laid k hp new)
def Inv.write {x e:Addr}{t':Nat}(I:Inv X Y U H s)(mu:Fp (H x))(he:e=x\/H e=some (.own x))(k:∀ b u,b≠e->s.heap.get? b=some u->h'.get? b=some u) (heo:∃ u,h'.get? e=some u)
  (new:ax X.prog X.w (upd H x o) h' x o):Inv X Y U (upd H x o) { s with heap:=h',toks:=t' }:=I.un (Un.write mu he k heo) (I.hok.write mu he k heo new)
def Inv.lM {pins':JV}(I:Inv X Y U H s)(h:∀ p ∈ pins',s.heap.get? p.1=some p.2/\H p.1=none/\p.1≠X.env.locals/\p.1 ∉ X.fs/\∀ v,p.2.data≠.cell v):Inv X pins' U H s:=
 ⟨I.ok,I.os,I.bare,I.base,I.loc,I.cell,I.free,I.freeC,λp hp=>(mem_append.mp hp).elim (λz=>I.pin p (mem_append_left _ z)) (h p),I.hok,I.len⟩
def jt {N:List Str}(hN:N.Nodup){j:Nat}(a:N[i]? =some x)(b:N[j]? =some x):i=j:=by
 obtain⟨h1,e1⟩:=sK.mp a;obtain⟨h2,e2⟩:=sK.mp b;exact(List.getElem_inj hN).mp (e1.trans e2.symm)
variable {Q:JT}
def k8 (I:Inv X Y U H s)(hN:X.N.Nodup)(hi:X.N[i]? =some x)(hx:Loc X.env.scope x)(r:RelV v u)
  (h:∀ s',Inv X Y (U.set i (some v)) H s'->(∃ a,Heap.SameBut a s.heap s'.heap/\(a=X.env.locals\/X.env.cells.lookup x=some a))->Q () s') (hf:X.fn x=true\/X.env.scope.names.lookup x=some .local:=by first|exact .inl rfl|exact .inr rfl|assumption):wpAny M A (storeName X.env x u) Q E s:=by
 obtain⟨m,hn,hl⟩:=id I.loc;have hcls:(X.env.scope.kind ==.class||(X.env.scope.kind ==.module&&X.env.locals != X.env.globals))=false:=by rw[I.ok.kind];rfl
 have hiσ:i<U.length:=by rw[I.len];exact(sK.mp hi).1
 have xp:=I.xp;have tracked:∀ {a:Addr}{h':Heap},(∃ o,s.heap.get? a=some o/\H a=none)->Heap.SameBut a s.heap h'->fq X.prog X.w H h':=λ{a h'} ha hs b ob e=>by
  obtain⟨_,_,hfree⟩:=ha;refine(I.hok b ob e).eO (λc w' hc q=>(hs.2 c ?_).trans q) (λ_ q=>q) λ_ _ q=>q
  rintro rfl;rcases hc with rfl|hc
  .rw[hfree]at e;cases e
  .rw[hfree]at hc;cases hc
 rcases hx with hk|hk
 .refine wpAny_storeName_local hk hn (λh' hn' hs=>?_) hcls;obtain⟨oL,_,_,hoL,_⟩:=id hn;refine h _ ⟨I.ok,I.os,I.bare,⟨λb o e n hb hx=>?_,λb o e n hb hx=>?_,I.base.free,λb o e hx=>?_,I.base.tups,I.base.frzs,I.base.tbls⟩,⟨_,hn',λj y v' e1 e2 e3=>?_⟩,λy c e=>?_,I.free,I.freeC,λp hp=>?_,tracked ⟨oL,hoL,I.free⟩ hs,by simpa using I.len⟩ ⟨_,hs,.inl rfl⟩
  .exact(hs.2 b (pi (ol (u8 e) I.ok.above))).trans (I.base.keep b o e n hb hx)
  .obtain⟨sl,e1⟩:=I.base.slot b o e n hb hx;exact⟨sl,(hs.2 b (pi (ol (u8 e) I.ok.above))).trans e1⟩
  .obtain⟨o',e1⟩:=I.base.there b o e hx;exact⟨o',(hs.2 b (pi (ol (u8 e) I.ok.above))).trans e1⟩
  .by_cases hj:j=i
   .subst hj;rw[hi]at e1;cases e1;rw[getElem?_set_self hiσ]at e2;cases e2;exact⟨u,r,.inl ⟨hk,by simp⟩⟩
   .rw[getElem?_set_ne (Ne.symm hj)]at e2;obtain⟨u',r',q⟩:=hl j y v' e1 e2 e3;refine⟨u',r',?_⟩;rcases q with⟨k,e⟩|⟨k,c,e,z⟩
    .refine .inl ⟨k,?_⟩;have:y≠x:=λe=>hj (jt hN e1 (e▸hi))
     simp[this,e]
    .exact .inr ⟨k,c,e,z.sameBut hs (xp y c e)⟩
  .obtain⟨w',z⟩:=I.cell y c e;exact⟨w',z.sameBut hs (xp y c e)⟩
  .obtain⟨e,n,ne,nf,d⟩:=I.pin p hp;exact⟨(hs.2 p.1 ne).trans e,n,ne,nf,d⟩
 .have hfn:X.fn x=true:=by
   rcases hf with z|z
   .exact z
   .rw[z]at hk;cases hk
  obtain⟨c,hc⟩:=I.ok.has x (.inl hk);obtain⟨w',z⟩:=I.cell x c hc;refine wpAny_storeName_cell I.ok.kind hk hc z (λh' hc' hs=>?_);obtain⟨oc,hoc,hocd⟩:=id z;refine h { s with heap:=h' } ⟨I.ok,I.os,I.bare,⟨λb o e n hb hx=>?_,λb o e n hb hx=>?_,I.base.free,λb o e hx=>?_,I.base.tups,I.base.frzs,I.base.tbls⟩,⟨m,hn.sameBut hs (Ne.symm (xp x c hc)),λj y v' e1 e2 e3=>?_⟩,λy c' e=>?_,I.free,I.freeC,λp hp=>?_,tracked ⟨oc,hoc,I.freeC x c hc⟩ hs,by simpa using I.len⟩ ⟨c,hs,.inr hc⟩
  .exact(hs.2 b (pi (ol (u8 e) (I.ok.cab x c hfn hc)))).trans (I.base.keep b o e n hb hx)
  .obtain⟨sl,e1⟩:=I.base.slot b o e n hb hx;exact⟨sl,(hs.2 b (pi (ol (u8 e) (I.ok.cab x c hfn hc)))).trans e1⟩
  .obtain⟨o',e1⟩:=I.base.there b o e hx;exact⟨o',(hs.2 b (pi (ol (u8 e) (I.ok.cab x c hfn hc)))).trans e1⟩
  .by_cases hj:j=i
   .subst hj;rw[hi]at e1;cases e1;rw[getElem?_set_self hiσ]at e2;cases e2;exact⟨u,r,.inr ⟨.inl hk,c,hc,hc'⟩⟩
   .rw[getElem?_set_ne (Ne.symm hj)]at e2;obtain⟨u',r',q⟩:=hl j y v' e1 e2 e3;refine⟨u',r',?_⟩;rcases q with q|⟨k,c',e,z'⟩
    .exact .inl q
    .refine .inr ⟨k,c',e,z'.sameBut hs ?_⟩;rintro rfl;exact hj (jt hN e1 (I.ok.inj _ _ _ e hc▸hi))
  .by_cases hcc:c'=c
   .subst hcc;exact⟨_,hc'⟩
   .obtain⟨w2,z2⟩:=I.cell y c' e;exact⟨w2,z2.sameBut hs hcc⟩
  .obtain⟨e,n,ne,nf,d⟩:=I.pin p hp;refine⟨(hs.2 p.1 ?_).trans e,n,ne,nf,d⟩;intro q;rw[q,hoc]at e;have q':oc=p.2:=Option.some.inj e;exact d w' (by rw[<-q'];exact hocd)
def dI (I:Inv X Y U H s)(hN:X.N.Nodup)(hi:X.N[i]? =some x)(hx:Loc X.env.scope x)(r:RelV v u)
  (h:∀ s',Inv X Y (U.set i (some v)) H s'->Q () s') (hf:X.fn x=true\/X.env.scope.names.lookup x=some .local:=by first|exact .inl rfl|exact .inr rfl|assumption):wpAny M A (storeName X.env x u) Q E s:=
 k8 I hN hi hx r (λs' I' _=>h s' I') hf
def Inv.sW {s':Shared}(I:Inv X Y U H s)(ho:s'.os=s.os)(u:Un (mi X.stack) ch H H' s.heap s'.heap)(hok:fq X.prog X.w H' s'.heap)(hg:AllBare s'.gens)
  (hch:∀ b ∈ ch,(b ∈ X.ex\/X.s₀.heap.objs.size<=b)/\b≠X.env.locals/\(∀ x c,X.env.cells.lookup x=some c->c≠b)/\∀ p ∈ X.pn++Y,p.1≠b):Inv X Y U H' s':=by
 obtain⟨h',g',d',t',o'⟩:=s';have e:o'=s.os:=ho;subst e;exact I.call (g':=g') (t':=t') (d':=d') u hok hg hch
end
@[reducible]def XK:=Addr->Hp->Prop
@[reducible]def St:=List (Option V)
@[reducible]def VK:=V->Hp->Prop
@[reducible]def TE:=St->Hp->VK->Prop
@[reducible]def TT:=St->Hp->(Bool->Hp->Prop)->Prop
@[reducible]def TA:=St->Hp->(List V->Hp->Prop)->Prop
structure Ends where
 nx:St->Hp->Prop
 rt:VK
 bk:St->Hp->Prop:=λ_ _=>False
 ct:St->Hp->Prop:=λ_ _=>False
@[reducible]def TS:=Ends->St->Hp->Prop
abbrev EP (X:Cx)(Y:JV)(U:St)(Q:VK)(u:Value)(s':Shared):Prop:=∃ v H',Inv X Y U H' s'/\RelV v u/\Q v H'
abbrev TP (X:Cx)(Y:JV)(U:St)(Q:Bool->Hp->Prop)(b:Bool)(s':Shared):Prop:=∃ H',Inv X Y U H' s'/\Q b H'
abbrev AP (X:Cx)(Y:JV)(U:St)(Q:List V->Hp->Prop)(us:List Value)(s':Shared):Prop:=∃ vs H',Inv X Y U H' s'/\Vals vs us/\Q vs H'
abbrev SP (X:Cx)(Y:JV)(D:Ends)(f:Flow)(s':Shared):Prop:=
 match f with
 | .next=>∃ σ' H',Inv X Y σ' H' s'/\D.nx σ' H'
 | .brk=>∃ σ' H',Inv X Y σ' H' s'/\D.bk σ' H'
 | .cont=>∃ σ' H',Inv X Y σ' H' s'/\D.ct σ' H'
 | .ret u=>∃ v σ' H',Inv X Y σ' H' s'/\RelV v u/\D.rt v H'
abbrev PE (X:Cx)(e:Expr)(t:TE):Prop:=
 ∀ (Y:JV) (s:Shared) (U:St) (H:Hp) (Q:VK),Inv X Y U H s->t U H Q->wpAny (model X.prog X.w) X.A (eval e X.env) (EP X Y U Q) X.xe s
abbrev PT (X:Cx)(e:Expr)(t:TT):Prop:=
 ∀ (Y:JV) (s:Shared) (U:St) (H:Hp) (Q:Bool->Hp->Prop),Inv X Y U H s->t U H Q->wpAny (model X.prog X.w) X.A (isTrue e X.env (eval e X.env)) (TP X Y U Q) X.xe s
abbrev PW (X:Cx)(e:Expr)(t:TT):Prop:=
 ∀ (whole:Sem Value) (Y:JV) (s:Shared) (U:St) (H:Hp) (Q:Bool->Hp->Prop),Inv X Y U H s->t U H Q->wpAny (model X.prog X.w) X.A (isTrue e X.env whole) (TP X Y U Q) X.xe s
variable {e:Expr}
def PW.pt {X:Cx}{t:TT}(h:PW X e t):PT X e t:=h _
abbrev PA (X:Cx)(es:List Expr)(t:TA):Prop:=
 ∀ (pos:Pos) (Y:JV) (s:Shared) (U:St) (H:Hp) (Q:List V->Hp->Prop),Inv X Y U H s->t U H Q->wpAny (model X.prog X.w) X.A (spliced (backTo pos (bv es X.env))) (AP X Y U Q) X.xe s
abbrev PS (X:Cx)(st:Stmt)(t:TS):Prop:=
 ∀ (Y:JV) (s:Shared) (U:St) (H:Hp) (D:Ends),Inv X Y U H s->t D U H->wpAny (model X.prog X.w) X.A (exec st X.env) (SP X Y D) X.xe s
abbrev yK (X:Cx)(st:List Stmt)(t:TS):Prop:=
 ∀ (Y:JV) (s:Shared) (U:St) (H:Hp) (D:Ends),Inv X Y U H s->t D U H->wpAny (model X.prog X.w) X.A (execs st X.env) (SP X Y D) X.xe s
variable {s:Shared}
def aC {α:Type}{t:Sem α}{Q Q':α->Shared->Prop}(h:wpAny M A t Q E s)(hQ:∀ a s,Q a s->Q' a s):wpAny M A t Q' E s:=wpAny_mono h hQ λ_ _ x=>x
variable {Q:JU}{Y:JV}{U:St}{c:Expr}
section
variable {X:Cx}
abbrev Ib (i:Nat):TE:=λU H Q=>∃ v,U[i]? =some (some v)/\Q v H
abbrev tC (v:V):TE:=λ_ H Q=>Q v H
def D7 {pos:Pos}(hN:X.N[i]? =some x)(hv:GD X.env.scope x)(hd:(x ==("__debug__":Str))=false:=by decide) (hcd:(x ==("__classdict__":Str))=false:=by decide):PE X (.Name x pos) (Ib i):=by
 intro Y s U H Q I h;obtain⟨v,e,h⟩:=h;obtain⟨m,hn,hl⟩:=I.loc;obtain⟨u,r,l⟩:=hl i x v hN e hv;have fin:EP X Y U Q u s:=⟨v,H,I,r,h⟩;rcases l with⟨hk,hm⟩|⟨hk,c,hc,hcell⟩
 .exact wpAny_Name (wpAny_loadName_local I.ok.kind hk hn hm fin) hd
 .rcases hk with hk|hk
  .exact wpAny_Name (wpAny_loadName_cell I.ok.kind hk hc hcell fin) hd
  .exact wpAny_Name (wpAny_loadName_free I.ok.kind hk hc hcell fin hcd) hd
def CL {i j pos}:PE X (.Constant (.int i) j pos) (tC (.int i)):=λ_ _ _ H _ I h=>wpAny_Constant_int ⟨.int i,H,I.tok _,⟨_,rfl⟩,h⟩
def Gw {b j pos}:PE X (.Constant (.bool b) j pos) (tC (.bl b)):=λ_ _ _ H _ I h=>Constant_bool ⟨.bl b,H,I,rfl,h⟩
def Dw {j pos}:PE X (.Constant .none j pos) (tC .non):=λ_ _ _ H _ I h=>Constant_none ⟨.non,H,I,rfl,h⟩
def vk {x j pos}:PE X (.Constant (.str x) j pos) (tC (.str x)):=λ_ _ _ H _ I h=>Calls.Constant_str ⟨.str x,H,I.tok _,⟨_,rfl⟩,h⟩
abbrev Gl (X:Cx)(x:Str):Prop:=X.env.kindOf x=some .globalImplicit
def ba {pos:Pos}(I:Inv X Y U H s)(hg:Gl X x)(hm:X.mg x=some u)(h:Q u s)
  (hd:(x ==("__debug__":Str))=false:=by decide):wpAny (model X.prog X.w) X.A (eval (.Name x pos) X.env) Q E s:=
 Calls.Name_function_global I.ok.kind hg (Calls.loadGlobal_global (by rw[I.ok.glob];exact I.mod.glob.keeps I.bk) hm h) hd
def jD {pos:Pos}(I:Inv X Y U H s)(hg:Gl X x)(hm:X.mg x=none)(hv:bootBuiltins x=some u)(h:Q u s)
  (hn:x≠"__name__":=by decide) (hd:(x ==("__debug__":Str))=false:=by decide):wpAny (model X.prog X.w) X.A (eval (.Name x pos) X.env) Q E s:=by
 obtain⟨mb,h1,h2⟩:=I.mod.blt;exact Calls.Name_function_global I.ok.kind hg (Calls.loadGlobal_builtin (by rw[I.ok.glob];exact I.mod.glob.keeps I.bk) hm (by rw[I.ok.blt];exact h1.keeps I.bk) ((h2 x hn).trans hv) h) hd
def mf {pos:Pos}(hg:Gl X x)(hm:X.mg x=some u)(r:RelV v u)(hd:(x ==("__debug__":Str))=false:=by decide):PE X (.Name x pos) (tC v):=
 λ_ _ _ H _ I h=>ba I hg hm ⟨v,H,I,r,h⟩ hd
def AL {pos:Pos}(hg:Gl X x)(hm:X.mg x=none)(hv:bootBuiltins x=some u)(r:RelV v u)(hn:x≠"__name__":=by decide) (hd:(x ==("__debug__":Str))=false:=by decide):PE X (.Name x pos) (tC v):=
 λ_ _ _ H _ I h=>jD I hg hm hv ⟨v,H,I,r,h⟩ hn hd
variable {a b:Expr}{ta tb:TE}{pos:Pos}
variable {tA tB':TT}{rest:List Expr}
abbrev IB (t u:TT):TT:=λU H Q=>t U H λc H1=>if c=true then u U H1 Q else Q false H1
abbrev Js (t u:TT):TT:=λU H Q=>t U H λc H1=>if c=true then Q true H1 else u U H1 Q
abbrev Iv (t:TT):TT:=λU H Q=>t U H λc H1=>Q (!c) H1
def AR (ha:PT X a tA):PW X (.BoolOp .And [a] pos) tA:=by
 intro wh Y s U H Q I h;refine isTrue_and (aC (ha Y s U H Q I h) λc s1 e=>?_);cases c with
 |true=>exact isTrue_and_nil e
 |false=>exact e
def D8 (ha:PT X a tA):PW X (.BoolOp .Or [a] pos) tA:=by
 intro wh Y s U H Q I h;refine isTrue_or (aC (ha Y s U H Q I h) λc s1 e=>?_);cases c with
 |false=>exact isTrue_or_nil e
 |true=>exact e
def Eb (ha:PT X a tA)(hb:PW X (.BoolOp .And (b::rest) pos) tB'):PW X (.BoolOp .And (a::b::rest) pos) (IB tA tB'):=by
 intro wh Y s U H Q I h;refine isTrue_and (aC (ha Y s U H _ I h) λc s1 ⟨H1,I1,q1⟩=>?_);cases c with
 |true=>exact hb wh Y s1 U H1 Q I1 q1
 |false=>exact⟨H1,I1,q1⟩
def FG (ha:PT X a tA)(hb:PW X (.BoolOp .Or (b::rest) pos) tB'):PW X (.BoolOp .Or (a::b::rest) pos) (Js tA tB'):=by
 intro wh Y s U H Q I h;refine isTrue_or (aC (ha Y s U H _ I h) λc s1 ⟨H1,I1,q1⟩=>?_);cases c with
 |true=>exact⟨H1,I1,q1⟩
 |false=>exact hb wh Y s1 U H1 Q I1 q1
def Cq (ha:PT X a tA):PT X (.UnaryOp .Not a pos) (Iv tA):=by
 intro Y s U H Q I h;exact isTrue_not (ha Y s U H (λc H1=>Q (!c) H1) I h)
abbrev Fo (ta tb:TE):TE:=λU H Q=>ta U H λx H1=>∃ c,x=.bl c/\if c=true then tb U H1 Q else Q (.bl false) H1
abbrev HR (ta tb:TE):TE:=λU H Q=>ta U H λx H1=>∃ c,x=.bl c/\if c=true then Q (.bl true) H1 else tb U H1 Q
abbrev Fw (ta:TE):TE:=λU H Q=>ta U H λx H1=>∃ c,x=.bl c/\Q (.bl (!c)) H1
def xl {op}{t:TE}(h:PE X a t):PE X (.BoolOp op [a] pos) t:=λY s U H Q I hw=>BoolOp_one (h Y s U H Q I hw)
def Ek (ha:PE X a ta)(hb:PE X (.BoolOp .And (b::rest) pos) tb):PE X (.BoolOp .And (a::b::rest) pos) (Fo ta tb):=by
 intro Y s U H Q I h;refine BoolOp_and (aC (ha Y s U H _ I h) λv s1 ⟨x,H1,I1,r1,q1⟩=>?_);obtain⟨c,rfl,q1⟩:=q1;cases r1;refine bm ?_;cases c with
 |true=>exact hb Y s1 U H1 Q I1 q1
 |false=>exact⟨.bl false,H1,I1,rfl,q1⟩
def GQ (ha:PE X a ta)(hb:PE X (.BoolOp .Or (b::rest) pos) tb):PE X (.BoolOp .Or (a::b::rest) pos) (HR ta tb):=by
 intro Y s U H Q I h;refine BoolOp_or (aC (ha Y s U H _ I h) λv s1 ⟨x,H1,I1,r1,q1⟩=>?_);obtain⟨c,rfl,q1⟩:=q1;cases r1;refine bm ?_;cases c with
 |false=>exact hb Y s1 U H1 Q I1 q1
 |true=>exact⟨.bl true,H1,I1,rfl,q1⟩
def Cu (ha:PE X a ta):PE X (.UnaryOp .Not a pos) (Fw ta):=by
 intro Y s U H Q I h;refine UnaryOp_ (aC (ha Y s U H _ I h) λv s1 ⟨x,H1,I1,r1,q1⟩=>?_);obtain⟨c,rfl,q1⟩:=q1;cases r1;exact not_of (bm ⟨.bl (!c),H1,I1,rfl,q1⟩)
abbrev JO (t:TT)(ta tb:TE):TE:=λU H Q=>t U H λc H1=>if c=true then ta U H1 Q else tb U H1 Q
def vP (hc:PT X c tA)(ha:PE X a ta)(hb:PE X b tb):PE X (.IfExp c a b pos) (JO tA ta tb):=by
 intro Y s U H Q I h;refine wpAny_IfExp (aC (hc Y s U H _ I h) λd s1 ⟨H1,I1,q1⟩=>?_);cases d with
 |true=>exact ha Y s1 U H1 Q I1 q1
 |false=>exact hb Y s1 U H1 Q I1 q1
end
abbrev aP (K:W.Frag)(H:Hp)(a:Addr)(xs:List V):Prop:=
 Rd H a (.lst xs)\/
  ∃ (o:Obj) (its:Array Value) (n:Nat),K.lookup a=some o/\o.cls=.type "list"/\o.dict=none/\o.data=.seq its n/\its.size<=ce/\Vals xs its.toList
abbrev a5 (K:W.Frag)(H:Hp)(a:Addr)(xs:List V):Prop:=
 Rd H a (.tup xs)\/
  ∃ (o:Obj) (its:Array Value) (n:Nat),K.lookup a=some o/\o.cls=.type "tuple"/\o.data=.seq its n/\its.size<=ce/\Vals xs its.toList
abbrev Ih:Value->Option V
 | .none=>some .non
 | .bool b=>some (.bl b)
 | .int i _=>some (.int i)
 | .str x _=>some (.str x)
 | .bytes b _=>some (.byt b)
 | .float b _=>some (.flt b)
 | .ref a=>some (.ref a)
 | .type n=>some (.ty n)
 |_=>none
def RelV.abs {x:V}(r:RelV x u):Ih u=some x:=by
 cases x with
 |non=>cases r;rfl
 |bl _=>cases r;rfl
 |int _=>obtain⟨t,rfl⟩:=r;rfl
 |str _=>obtain⟨t,rfl⟩:=r;rfl
 |byt _=>obtain⟨t,rfl⟩:=r;rfl
 |flt _=>obtain⟨t,rfl⟩:=r;rfl
 |ref _=>cases r;rfl
 |ty _=>cases r;rfl
def RelV.inj {x y:V}(r:RelV x u)(q:RelV y u):x=y:=Option.some.inj (r.abs.symm.trans q.abs)
def Vals.inj:∀ {xs ys:List V}{us:List Value},Vals xs us->Vals ys us->xs=ys
 |_,_,_,.nil,.nil=>rfl
 |_,_,_,.cons r t,.cons r' t'=>by rw[r.inj r',Vals.inj t t']
variable {K:W.Frag}
section
variable {X:Cx}{Y:JV}{U:St}{H:Hp}{s:Shared}{a:Addr}{xs ys:List V}
def aP.of (h:H a=some (.lst xs)):aP K H a xs:=.inl (.inl h)
def a5.of (h:H a=some (.tup xs)):a5 K H a xs:=.inl (.inl h)
def Inv.list (I:Inv X Y U H s)(h:aP X.K H a xs):∃ its:List Value,Vals xs its/\PlainL s.heap a its.toArray/\xs.length<=ce:=by
 rcases h with h|⟨o,its,n,hk,hc,hd,hs,hz,r⟩
 .obtain⟨z,its,n,r,e⟩:=h.ok I.hok;exact⟨its,r,⟨_,n,e,rfl,rfl,rfl⟩,z⟩
 .refine⟨its.toList,r,⟨o,n,I.bw a o hk,hc,hd,by simpa using hs⟩,?_⟩;have e:=r.length;simp only[Array.length_toList]at e
  omega
def Inv.tuple (I:Inv X Y U H s)(h:a5 X.K H a xs):∃ its:List Value,Vals xs its/\IsTup s.heap a its.toArray/\xs.length<=ce:=by
 rcases h with h|⟨o,its,n,hk,hc,hs,hz,r⟩
 .obtain⟨z,its,r,p⟩:=h.ok I.hok;exact⟨its,r,p,z⟩
 .refine⟨its.toList,r,⟨o,I.bw a o hk,hc,n,by simpa using hs⟩,?_⟩;have e:=r.length;simp only[Array.length_toList]at e
  omega
def Inv.gj (I:Inv X Y U H s)(h:aP X.K H a xs)(h':aP X.K H a ys):xs=ys:=by
 obtain⟨its,r,⟨o,n,e,_,_,d⟩,_⟩:=I.list h;obtain⟨its',r',⟨o',n',e',_,_,d'⟩,_⟩:=I.list h';rw[e]at e';cases e';rw[d]at d'
 injection d' with d1 _
 have:its=its':=by simpa using congrArg Array.toList d1
 subst this;exact r.inj r'
def Inv.kS (I:Inv X Y U H s)(h:a5 X.K H a xs)(h':a5 X.K H a ys):xs=ys:=by
 obtain⟨its,r,⟨o,e,_,n,d⟩,_⟩:=I.tuple h;obtain⟨its',r',⟨o',e',_,n',d'⟩,_⟩:=I.tuple h';rw[e]at e';cases e';rw[d]at d'
 injection d' with d1 _
 have:its=its':=by simpa using congrArg Array.toList d1
 subst this;exact r.inj r'
end
section
variable {X:Cx}{Y:JV}{U:St}{H:Hp}{s:Shared}{E:JU}
end
section
variable {X:Cx}{st:Stmt}{rest:List Stmt}{t u:TS}{e:Expr}{te:TE}{pos:Pos}
abbrev G0:TS:=λD U H=>D.nx U H
abbrev HP (t u:TS):TS:=λD U H=>t { D with nx:=u D } U H
def Ah:yK X [] G0:=λ_ _ U H _ I h=>wpAny_execs_nil ⟨U,H,I,h⟩
def xH (h1:PS X st t)(h2:yK X rest u):yK X (st::rest) (HP t u):=by
 intro Y s U H D I h;refine wpAny_execs_cons (aC (h1 Y s U H { D with nx:=u D } I h) λf s1 q=>?_);cases f with
 |next=>
  obtain⟨σ',H',I',q⟩:=q;exact h2 Y s1 σ' H' D I' q
 |ret v=>exact q
 |brk=>exact q
 |cont=>exact q
def Inv.quiet (I:Inv X Y U H s):interactive X.env=false:=by simp[interactive,I.ok.kind]
abbrev FY (te:TE):TS:=λD U H=>te U H λ_ H1=>D.nx U H1
def Aw (he:PE X e te)(hs:swapsWith e none pos.line X.env=pure false:=by rfl):PS X (.Expr e pos) (FY te):=by
 intro Y s U H D I h;exact wpAny_Expr_any (aC (he Y s U H _ I h) λv s1 ⟨x,H1,I1,r1,q1⟩=>⟨U,H1,I1,q1⟩) I.quiet hs
abbrev Ij (te:TE):TS:=λD U H=>te U H D.rt
def Ed (he:PE X e te):PS X (.Return (some e) pos) (Ij te):=by
 intro Y s U H D I h;exact wpAny_Return_some (aC (he Y s U H _ I h) λv s1 ⟨x,H1,I1,r1,q1⟩=>⟨x,U,H1,I1,r1,q1⟩)
abbrev Iy (c:TT)(t u:TS):TS:=λD U H=>c U H λb H1=>if b=true then t D U H1 else u D U H1
def FJ {a b:List Stmt}{tc:TT}(hc:PT X c tc)(ha:yK X a t)(hb:yK X b u):PS X (.If c a b pos) (Iy tc t u):=by
 intro Y s U H D I h;refine wpAny_If (aC (hc Y s U H _ I h) λd s1 ⟨H1,I1,q1⟩=>?_);cases d with
 |true=>exact ha Y s1 U H1 D I1 q1
 |false=>exact hb Y s1 U H1 D I1 q1
end
@[reducible]def TG:=V->St->Hp->(St->Hp->Prop)->Prop
@[reducible]def yI:=List V->St->Hp->(St->Hp->Prop)->Prop
abbrev PG (X:Cx)(target:Expr)(t:TG):Prop:=
 ∀ (Y:JV) (s:Shared) (U:St) (H:Hp) (v:V) (u:Value) (Q:St->Hp->Prop),Inv X Y U H s->RelV v u->t v U H Q->
  wpAny (model X.prog X.w) X.A (assign target X.env u) (λ_ s'=>∃ σ' H',Inv X Y σ' H' s'/\Q σ' H') X.xe s
abbrev CS (X:Cx)(ts:List Expr)(t:yI):Prop:=
 ∀ (Y:JV) (s:Shared) (U:St) (H:Hp) (vs:List V) (us:List Value) (Q:St->Hp->Prop),Inv X Y U H s->Vals vs us->t vs U H Q->
  wpAny (model X.prog X.w) X.A (assignInOrder ((assignEach ts X.env).map (·.2)) us) (λ_ s'=>∃ σ' H',Inv X Y σ' H' s'/\Q σ' H') X.xe s
@[reducible]def uP:=V->V->V->Hp->(Hp->Prop)->Prop
abbrev Ba (X:Cx)(t:uP):Prop:=
 ∀ (Y:JV) (s:Shared) (U:St) (H:Hp) (o i v:V) (ov iv u:Value) (Q:Hp->Prop),Inv X Y U H s->RelV o ov->RelV i iv->RelV v u->t o i v H Q->
  wpAny (model X.prog X.w) X.A (setItem ov iv u) (λ_ s'=>∃ H',Inv X Y U H' s'/\Q H') X.xe s
@[reducible]def ES:=V->V->Hp->VK->Prop
abbrev FE (X:Cx)(op:Operator)(t:ES):Prop:=
 ∀ (Y:JV) (s:Shared) (U:St) (H:Hp) (x y:V) (v u:Value) (Q:VK),Inv X Y U H s->RelV x v->RelV y u->t x y H Q->
  wpAny (model X.prog X.w) X.A (inplaceOp op v u) (EP X Y U Q) X.xe s
variable {es:List Expr}{k:Nat}{tg:Expr}{te:TE}{pos':Pos}{op:Operator}
section
variable {X:Cx}{pos:Pos}
abbrev gc (i:Nat):TG:=λv U H Q=>Q (U.set i (some v)) H
def gr (hN:X.N.Nodup)(hi:X.N[i]? =some x)(hx:Loc X.env.scope x)(hf:X.fn x=true\/X.env.scope.names.lookup x=some .local:=by first|exact .inl rfl|exact .inr rfl|assumption):PG X (.Name x pos) (gc i):=by
 intro Y s U H v u Q I r h;exact wpAny_assign_Name (dI I hN hi hx r (λs' I'=>⟨_,H,I',h⟩) hf)
abbrev HL:yI:=λvs U H Q=>vs=[]/\Q U H
abbrev FP (t:TG)(u:yI):yI:=λvs U H Q=>∃ v r,vs=v::r/\t v U H λσ' H'=>u r σ' H' Q
def mJ:CS X [] HL:=by
 intro Y s U H vs us Q I r h;obtain⟨e,h⟩:=h;subst e;cases r;exact assignInOrder_nil ⟨U,H,I,h⟩
def gv {t:TG}{u:yI}(h1:PG X e t)(h2:CS X es u)
  (hs:(assignEach (e::es) X.env).map (·.2)=assign e X.env::(assignEach es X.env).map (·.2):=by rfl):CS X (e::es) (FP t u):=by
 intro Y s U H vs us Q I r h;obtain⟨v,vr,e1,h⟩:=h;subst e1;cases r with
 |cons r rr=>
  rw[hs];refine assignInOrder_cons (aC (h1 Y s U H _ _ _ I r h) λ_ s1 ⟨σ1,H1,I1,q1⟩=>?_);exact h2 Y s1 σ1 H1 _ _ Q I1 rr q1
abbrev An (K:W.Frag)(n:Nat)(t:yI):TG:=λv U H Q=>∃ a xs,v=.ref a/\a5 K H a xs/\xs.length=n/\t xs U H Q
def lF {t:yI}{n:Nat}(hc:X.calm=true)(h:CS X es t)
  (hn:(assignEach es X.env).length=n:=by rfl) (hst:(assignEach es X.env).findIdx? (·.1)=none:=by rfl):PG X (.Tuple es k pos) (An X.K n t):=by
 intro Y s U H v u Q I r hw;obtain⟨a,xs,e1,hq,hl,hw⟩:=hw;subst e1;cases r;obtain⟨its,rv,ht,hz⟩:=I.tuple hq;refine assign_Tuple_tuple (I.ok.hd hc) ht (by simp[hn,<-hl,rv.length]) hst λh' hx=>?_
 have I1:Inv X Y U H { s with heap:=h' }:=I.kept (t':=s.toks) λb o e=>hx b o (pi (u8 e)) e
 exact h Y _ U H xs _ Q I1 (by simpa using rv) hw
abbrev Ho (to ti:TE)(t:uP):TG:=λv U H Q=>to U H λo H1=>ti U H1 λi H2=>t o i v H2 λH3=>Q U H3
def Cv {o i:Expr}{to ti:TE}{t:uP}(ho:PE X o to)(hi:PE X i ti)(hs:Ba X t)
  (ha:∀ v,assign (.Subscript o i pos) X.env v=(do
   let ov <-holding [v] (eval o X.env)
   let iv <-holding [v,ov] (eval i X.env)
   standAt pos
   holding [v,ov,iv] (setItem ov iv v)
   release [v,ov,iv] []):=by intro _;rfl):PG X (.Subscript o i pos) (Ho to ti t):=by
 intro Y s U H v u Q I r h;rw[ha];refine am (bi (aC (ho Y s U H _ I h) λov s1 ⟨x,H1,I1,r1,q1⟩=>?_));refine am (bi (aC (hi Y s1 U H1 _ I1 q1) λiv s2 ⟨y,H2,I2,r2,q2⟩=>?_));refine am (wpAny_standAt (am (bi (aC (hs Y s2 U H2 x y v ov iv u _ I2 r1 r2 r q2) λ_ s3 ⟨H3,I3,q3⟩=>?_))));exact wpAny_release ⟨U,H3,I3,q3⟩
abbrev F9 (te:TE)(g:TG):TS:=λD U H=>te U H λx H1=>g x U H1 D.nx
def vN {g:TG}(he:PE X e te)(hg:PG X tg g)(hs:swapsWithSole [tg] e pos.line X.env=pure false:=by rfl) (hw:swappedStores [tg] e X.env=pure none:=by rfl)
  (h1:(assignEach [tg] X.env).map (·.2)=[assign tg X.env]:=by rfl):PS X (.Assign [tg] e pos) (F9 te g):=by
 intro Y s U H D I h;refine wpAny_Assign_stores (aC (he Y s U H _ I h) λv s1 ⟨x,H1,I1,r1,q1⟩=>?_) hs hw;rw[h1];exact aC (hg Y s1 U H1 x v _ I1 r1 q1) λ_ s2 q=>q
def vd (hN:X.N.Nodup)(hi:X.N[i]? =some x)(hx:Loc X.env.scope x)(he:PE X e te)(hs:swapsWith e (some (.Name x pos')) pos.line X.env=pure false:=by rfl) (hf:X.fn x=true\/X.env.scope.names.lookup x=some .local:=by first|exact .inl rfl|exact .inr rfl|assumption):
  PS X (.Assign [.Name x pos'] e pos) (F9 te (gc i)):=by
 intro Y s U H D I h;refine wpAny_Assign_Name (aC (he Y s U H _ I h) λv s1 ⟨y,H1,I1,r1,q1⟩=>?_) hs;exact dI I1 hN hi hx r1 (λs2 I2=>⟨_,H1,I2,q1⟩) hf
abbrev Ir (i:Nat)(te:TE)(ti:ES):TS:=λD U H=>∃ x,U[i]? =some (some x)/\te U H λy H1=>ti x y H1 λz H2=>D.nx (U.set i (some z)) H2
def CN {ti:ES}(hN:X.N.Nodup)(hi:X.N[i]? =some x)(hx:Loc X.env.scope x)(he:PE X e te)(ho:FE X op ti)(hf:X.fn x=true\/X.env.scope.names.lookup x=some .local:=by first|exact .inl rfl|exact .inr rfl|assumption):
  PS X (.AugAssign (.Name x pos') op e pos) (Ir i te ti):=by
 intro Y s U H D I h;obtain⟨v,e1,h⟩:=h;obtain⟨m,hn,hl⟩:=I.loc;have DF:GD X.env.scope x:=by rcases hx with k|k;exact .inl k;exact .inr (.inl k)
 obtain⟨u,r,l⟩:=hl i x v hi e1 DF;refine wpAny_AugAssign_Name ?_;have go:wpAny (model X.prog X.w) X.A (eval e X.env) (λw s₂=>wpAny (model X.prog X.w) X.A (inplaceOp op u w) (λr s₃=>wpAny (model X.prog X.w) X.A (storeName X.env x r) (λ_=>SP X Y D .next) X.xe s₃) X.xe s₂) X.xe s:=by
  refine aC (he Y s U H _ I h) λw s1 ⟨y,H1,I1,r1,q1⟩=>?_
  refine aC (ho Y s1 U H1 v y u w _ I1 r r1 q1) λz s2 ⟨zv,H2,I2,r2,q2⟩=>?_
  exact dI I2 hN hi hx r2 (λs3 I3=>⟨_,H2,I3,q2⟩) hf
 rcases l with⟨hk,hm⟩|⟨hk,c,hc,hcell⟩
 .exact wpAny_loadName_local I.ok.kind hk hn hm go
 .rcases hk with hk|hk
  .exact wpAny_loadName_cell I.ok.kind hk hc hcell go
  .rcases hx with k|k
   .have:X.env.scope.names.lookup x=some .free:=hk;rw[k]at this;cases this
   .have:X.env.scope.names.lookup x=some .free:=hk;rw[k]at this;cases this
abbrev Fu (to ti te:TE)(tget:V->V->Hp->VK->Prop)(tip:ES)(tset:uP):TS:=λD U H=>to U H λo H1=>ti U H1 λi H2=>tget o i H2 λx H3=>te U H3 λy H4=>tip x y H4 λz H5=>tset o i z H5 λH6=>D.nx U H6
abbrev El (X:Cx)(t:V->V->Hp->VK->Prop):Prop:=
 ∀ (Y:JV) (s:Shared) (U:St) (H:Hp) (o i:V) (ov iv:Value) (Q:VK),Inv X Y U H s->RelV o ov->RelV i iv->t o i H Q->
  wpAny (model X.prog X.w) X.A (getItem ov iv) (EP X Y U Q) X.xe s
def Ao {o i:Expr}{to ti:TE}{tget:V->V->Hp->VK->Prop}{tip:ES}{tset:uP}{tpos:Pos}(ho:PE X o to)(hi:PE X i ti)(hg:El X tget)(he:PE X e te)(hp:FE X op tip)(hs:Ba X tset)
  (ha:∀ ov iv new,augStore i ov iv new=(do holding [new,ov,iv] (setItem ov iv new);release [new,ov,iv] [];pure .next):=by intros;rfl):PS X (.AugAssign (.Subscript o i tpos) op e pos) (Fu to ti te tget tip tset):=by
 intro Y s U H D I h;refine wpAny_AugAssign_SubscriptAny (aC (ho Y s U H _ I h) λov s1 ⟨x1,H1,I1,r1,q1⟩=>?_) ha;refine aC (hi Y s1 U H1 _ I1 q1) λiv s2 ⟨x2,H2,I2,r2,q2⟩=>?_
 refine aC (hg Y s2 U H2 x1 x2 ov iv _ I2 r1 r2 q2) λold s3 ⟨x3,H3,I3,r3,q3⟩=>?_
 refine aC (he Y s3 U H3 _ I3 q3) λv s4 ⟨x4,H4,I4,r4,q4⟩=>?_
 refine aC (hp Y s4 U H4 x3 x4 old v _ I4 r3 r4 q4) λnew s5 ⟨x5,H5,I5,r5,q5⟩=>?_
 exact aC (hs Y s5 U H5 x1 x2 x5 ov iv new _ I5 r1 r2 r5 q5) λ_ s6 ⟨H6,I6,q6⟩=>⟨U,H6,I6,q6⟩
abbrev IZ (f:Int->Int->Int):ES:=λx y H Q=>∃ i j,x=.int i/\y=.int j/\Q (.int (f i j)) H
def Eh:FE X .Add (IZ λi j=>i+j):=by
 intro Y s U H x y v u Q I r1 r2 h;obtain⟨i,j,e1,e2,q⟩:=h;subst e1;subst e2;obtain⟨t,rfl⟩:=r1;obtain⟨t',rfl⟩:=r2;exact iadd_int ⟨.int _,H,I.tok _,⟨_,rfl⟩,q⟩
def Dl:FE X .Sub (IZ λi j=>i-j):=by
 intro Y s U H x y v u Q I r1 r2 h;obtain⟨i,j,e1,e2,q⟩:=h;subst e1;subst e2;obtain⟨t,rfl⟩:=r1;obtain⟨t',rfl⟩:=r2;exact isub_int ⟨.int _,H,I.tok _,⟨_,rfl⟩,q⟩
end
variable {body:List Stmt}
section
variable {X:Cx}{pos:Pos}
abbrev Dc (c:TT)(tb:TS):TS:=λD U H=>∃ W:Nat->St->Hp->Prop,(∃ m,W m U H)/\∀ m U H,W m U H->
 c U H λb H1=>if b=true then ∃ N:St->Hp->Prop,(∀ σ' H',N σ' H'->∃ m',m'<m/\W m' σ' H')/\tb { D with nx:=N,ct:=N,bk:=D.nx } U H1 else D.nx U H1
def xP {tc:TT}{tb:TS}(hp:PassesOwn (model X.prog X.w) X.A X.env X.xe)(hc:PT X c tc)(hb:yK X body tb):PS X (.While c body [] pos) (Dc tc tb):=by
 intro Y s U H D I h;obtain⟨W,⟨m0,w0⟩,turn⟩:=h;refine wpAny_While (codeAny_whileLoop (λn s'=>∃ σ' H',Inv X Y σ' H' s'/\W n σ' H') ?_ m0 ⟨U,H,I,w0⟩);rintro n s1 ⟨σ1,H1,I1,w1⟩;refine wpAny_passesOwn hp (aC (hc Y s1 σ1 H1 _ I1 (turn n σ1 H1 w1)) λb s2 ⟨H2,I2,q2⟩=>?_);cases b with
 |true=>
  obtain⟨N,hN,q2⟩:=q2;rw[if_pos rfl];refine wpAny_passesOwn hp (aC (hb Y s2 σ1 H2 _ I2 q2) λf s3 q3=>?_);cases f with
  |next=>
   obtain⟨σ3,H3,I3,n3⟩:=q3;obtain⟨m',hm,w3⟩:=hN σ3 H3 n3;exact⟨m',hm,σ3,H3,I3,w3⟩
  |cont=>
   obtain⟨σ3,H3,I3,n3⟩:=q3;obtain⟨m',hm,w3⟩:=hN σ3 H3 n3;exact⟨m',hm,σ3,H3,I3,w3⟩
  |brk=>exact q3
  |ret v=>exact q3
 |false=>
  rw[if_neg Bool.false_ne_true];exact wpAny_execs_nil ⟨σ1,H2,I2,q2⟩
end
structure It where
 go:Nat->Hp->Prop
 yld:Nat->Hp->V->Hp->Prop
 stop:Nat->Hp->Prop
abbrev ip (X:Cx)(Y:JV)(H:Hp)(b:Addr):Prop:=
 H b=none/\b≠X.env.locals/\b ∉ X.fs/\(b ∈ X.ex\/X.s₀.heap.objs.size<=b)/\(∀ x c,X.env.cells.lookup x=some c->c≠b)/\∀ p ∈ X.pn++Y,p.1≠b
def Inv.vb {X:Cx}{H':Hp}(I:Inv X Y U H s)(hb:s.heap.objs.size<=b)(hn:H' b=none):ip X Y H' b:=by
 refine⟨hn,Nat.ne_of_gt (ol I.lt hb),I.HQ hb,.inr (Nat.le_trans I.sz hb),λx c e z=>?_,λp hp z=>?_⟩
 .obtain⟨v,q⟩:=I.cell x c e;exact absurd (ol q.lt (by rw[z];exact hb)) (Nat.lt_irrefl _)
 .exact absurd (ol (u8 (I.pin p hp).1) (by rw[z];exact hb)) (Nat.lt_irrefl _)
structure Turn (P:Program) (w:World) (K:W.Frag) (tg:Expr) (J:It) (fp:List Addr) (it:Addr) (tn:Nat->Heap->Prop):Prop where
 mem:it ∈ fp
 obj:∀ i h,tn i h->∀ b ∈ fp,∃ o,h.get? b=some o/\∀ v,o.data≠.cell v
 keep:∀ i h h',tn i h->(∀ b ∈ fp,∀ o,h.get? b=some o->h'.get? b=some o)->tn i h'
 item:∀ (X:Cx),X.prog=P->X.w=w->X.K=K->X.calm=true->∀ (i:Nat) (Y:JV) (s:Shared) (U:St) (H:Hp) (E:JU),Inv X Y U H s->(∀ b ∈ fp,ip X Y H b)->tn i s.heap->J.go i H->
  wpAny (model P w) X.A (pyNext (.ref it)) (λr s1=>∃ u,r=some u/\
   wpAny (model P w) X.A (letOwnedTupleGo tg (.ref it) u) (λ_ s2=>∃ x H',Inv X Y U H' s2/\RelV x u/\J.yld i H x H'/\tn (i+1) s2.heap/\∀ b ∈ fp,H' b=none) E s1) E s
 done:∀ (X:Cx),X.prog=P->X.w=w->X.K=K->X.calm=true->∀ (i:Nat) (Y:JV) (s:Shared) (U:St) (H:Hp) (E:JU),Inv X Y U H s->(∀ b ∈ fp,ip X Y H b)->tn i s.heap->J.stop i H->
  wpAny (model P w) X.A (pyNext (.ref it)) (λr s1=>r=none/\Inv X Y U H s1) E s
 self:∀ (A:Around) (i:Nat) (s:Shared) (Q:JU) (E:JU),tn i s.heap->Q (.ref it) s->wpAny (model P w) A (pyIter (.ref it)) Q E s
@[reducible]def TI:=St->Hp->(It->Hp->Prop)->Prop
abbrev FA (X:Cx)(Y:JV)(U:St)(tg:Expr)(R:It->Hp->Prop)(itv:Value)(s2:Shared):Prop:=
 ∃ (it:Addr) (fp:List Addr) (tn:Nat->Heap->Prop) (J:It) (H':Hp),itv=.ref it/\Inv X Y U H' s2/\Turn X.prog X.w X.K tg J fp it tn/\tn 0 s2.heap/\(∀ b ∈ fp,ip X Y H' b)/\R J H'
abbrev PI (X:Cx)(tg iter:Expr)(wi:TI):Prop:=
 ∀ (Y:JV) (s:Shared) (U:St) (H:Hp) (R:It->Hp->Prop),Inv X Y U H s->wi U H R->
  wpAny (model X.prog X.w) X.A (eval iter X.env) (λv s1=>wpAny (model X.prog X.w) X.A (pyIter v) (FA X Y U tg R) X.xe s1) X.xe s
def sV {it:Addr}{o:Obj}{n:String}{vs:Array Value}{Q:JT}(ho:s.heap.get? it=some o)(hc:o.cls=.type n)(hd:o.data=.fields vs)
  (hn:["enumerate","zip","dict_itemiterator","dict_reverseitemiterator","odict_iterator","itertools.zip_longest","itertools.pairwise"].contains n=false) (hQ:Q () s):wpAny M A (letOwnedTupleGo tg (.ref it) u) Q E s:=by
 unfold letOwnedTupleGo;cases tg<;>first
  |exact ap hQ
  |(cases u<;>first
    |exact ap hQ
    |(refine am (wpAny_load ho ?_)
      rw[hc,hd];show wpAny M A (if(["enumerate","zip","dict_itemiterator","dict_reverseitemiterator","odict_iterator","itertools.zip_longest","itertools.pairwise"].contains n&&vs[0]? ==some (rawInt _))=true then _ else _) Q E s;rw[if_neg (by intro h;rw[hn,Bool.false_and]at h;cases h)];exact ap hQ))
abbrev EE (K:W.Frag)(a:Addr):It:=
 ⟨λi H=>∃ xs x,aP K H a xs/\xs[i]? =some x,λi H x H'=>H'=H/\∀ xs,aP K H a xs->xs[i]? =some x,λi H=>∃ xs,aP K H a xs/\xs.length<=i⟩
abbrev ER (K:W.Frag)(a:Addr):It:=
 ⟨λi H=>∃ xs x,a5 K H a xs/\xs[i]? =some x,λi H x H'=>H'=H/\∀ xs,a5 K H a xs->xs[i]? =some x,λi H=>∃ xs,a5 K H a xs/\xs.length<=i⟩
abbrev EN (lo:Int)(n:Nat):It:=⟨λi _=>i<n,λi H x H'=>H'=H/\x=.int (lo+i),λi _=>n<=i⟩
def um (a it:Addr):Turn P w K tg (EE K a) [it] it (λi h=>h.IsListIter it a i) where
 mem:=by simp
 obj:=λi h st b hb=>by
  have e:b=it:=by simpa using hb
  subst e;obtain⟨o,e,c,d⟩:=st;exact⟨o,e,λv z=>by rw[d]at z;cases z⟩
 keep:=λi h h' st k=>st.at λo e=>k it (by simp) o e
 item:=by
  intro X hP hw hK hc i Y s U H E I hf st hg;subst hP hw hK;obtain⟨xs,x,hq,hx⟩:=hg;obtain⟨its,rv,p,hz⟩:=I.list hq;obtain⟨u,hu,ru⟩:=rv.get hx;obtain⟨f0,f1,f2,f3,f4,f5⟩:=hf it (by simp);refine wpAny_pyNext_list_item st p.isList (x:=u) (by simpa using hu) λh' st' sb=>?_
  have I1:Inv X Y U H { s with heap:=h' }:=I.turned (t':=s.toks) (λb o hb e=>(sb.2 b hb).trans e) f0 f1 f3 f4 f5;obtain⟨o,e,c,d⟩:=id st';exact⟨u,rfl,sV (s:={ s with heap:=h' }) e c d (by decide) ⟨x,H,I1,ru,⟨rfl,λys hy=>by rw[I.gj hy hq];exact hx⟩,st',λb hb=>(hf b hb).1⟩⟩
 done:=by
  intro X hP hw hK hc i Y s U H E I hf st hg;subst hP hw hK;obtain⟨xs,hq,hx⟩:=hg;obtain⟨its,rv,p,hz⟩:=I.list hq;obtain⟨f0,f1,f2,f3,f4,f5⟩:=hf it (by simp);have hl:=rv.length;exact wpAny_pyNext_list_end (I.ok.hd hc) st p.isList (by simp;omega) λh' eb=>⟨rfl,I.turned (t':=s.toks) (λb o hb e=>eb b o hb e) f0 f1 f3 f4 f5⟩
 self:=λ_ _ _ _ _ st h=>wpAny_pyIter_listiter st h
def qL (a it:Addr):Turn P w K tg (ER K a) [it] it (λi h=>h.IsTupleIter it a i) where
 mem:=by simp
 obj:=λi h st b hb=>by
  have e:b=it:=by simpa using hb
  subst e;obtain⟨o,e,c,d⟩:=st;exact⟨o,e,λv z=>by rw[d]at z;cases z⟩
 keep:=λi h h' st k=>st.at λo e=>k it (by simp) o e
 item:=by
  intro X hP hw hK hc i Y s U H E I hf st hg;subst hP hw hK;obtain⟨xs,x,hq,hx⟩:=hg;obtain⟨its,rv,p,hz⟩:=I.tuple hq;obtain⟨u,hu,ru⟩:=rv.get hx;obtain⟨f0,f1,f2,f3,f4,f5⟩:=hf it (by simp);refine wpAny_pyNext_tuple_item st (show s.heap.IsTuple a its.toArray from p) (x:=u) (by simpa using hu) λh' st' sb=>?_
  have I1:Inv X Y U H { s with heap:=h' }:=I.turned (t':=s.toks) (λb o hb e=>(sb.2 b hb).trans e) f0 f1 f3 f4 f5;obtain⟨o,e,c,d⟩:=id st';exact⟨u,rfl,sV (s:={ s with heap:=h' }) e c d (by decide) ⟨x,H,I1,ru,⟨rfl,λys hy=>by rw[I.kS hy hq];exact hx⟩,st',λb hb=>(hf b hb).1⟩⟩
 done:=by
  intro X hP hw hK hc i Y s U H E I hf st hg;subst hP hw hK;obtain⟨xs,hq,hx⟩:=hg;obtain⟨its,rv,p,hz⟩:=I.tuple hq;obtain⟨f0,f1,f2,f3,f4,f5⟩:=hf it (by simp);have hl:=rv.length;exact wpAny_pyNext_tuple_end (I.ok.hd hc) st (show s.heap.IsTuple a its.toArray from p) (by simp;omega) λh' eb=>⟨rfl,I.turned (t':=s.toks) (λb o hb e=>eb b o hb e) f0 f1 f3 f4 f5⟩
 self:=λ_ _ _ _ _ st h=>wpAny_pyIter_tupleiter st h
def qk (it:Addr)(lo:Int)(n:Nat):Turn P w K tg (EN lo n) [it] it (λi h=>IsRangeIter h it (lo+(i:Nat)*1) ((n:Int)-(i:Nat)) 1) where
 mem:=by simp
 obj:=λi h st b hb=>by
  have e:b=it:=by simpa using hb
  subst e;exact⟨_,st,λv z=>by
   have z':Data.fields _=Data.cell v:=z;cases z'⟩
 keep:=λi h h' st k=>k it (by simp) _ st
 item:=by
  intro X hP hw hK hc i Y s U H E I hf st hg;subst hP hw hK;obtain⟨f0,f1,f2,f3,f4,f5⟩:=hf it (by simp);have W:=Walks.range (prog:=X.prog) (w:=X.w) (I.ok.hd hc) it lo 1 n;refine W.item i s _ _ hg st λv h' tk hv st' kk=>?_
  obtain⟨t,rfl⟩:=hv;have I1:Inv X Y U H { s with heap:=h',toks:=tk }:=I.turned (λb o hb e=>kk b o (by simpa using hb) e) f0 f1 f3 f4 f5;refine⟨_,rfl,sV (s:={ s with heap:=h',toks:=tk }) (n:="range_iterator") st' rfl rfl (by decide) ⟨.int (lo+i),H,I1,⟨t,?_⟩,⟨rfl,rfl⟩,st',λb hb=>(hf b hb).1⟩⟩;rw[Int.mul_one]
 done:=by
  intro X hP hw hK hc i Y s U H E I hf st hg;subst hP hw hK;obtain⟨f0,f1,f2,f3,f4,f5⟩:=hf it (by simp);exact wpAny_pyNext_range_end (I.ok.hd hc) st (by have:n<=i:=hg;omega) λh' eb=>⟨rfl,I.turned (t':=s.toks) (λb o hb e=>eb b o hb e) f0 f1 f3 f4 f5⟩
 self:=λ_ _ _ _ _ st h=>wpAny_pyIter_rangeiter st h
variable {pos:Pos}{fp:List Addr}
section
variable {X:Cx}{tg:Expr}
def wj {R:It->Hp->Prop}{lo hi:Int}{t u v:Tok}{tk:Nat}(I:Inv X Y U H s)(h1: -(2 ^ 62)<=lo)(h2:lo<2 ^ 62)(h3: -(2 ^ 62)<=hi)(h4:hi<2 ^ 62)
  (q:R (EN lo (hi-lo).toNat) H):wpAny (model X.prog X.w) X.A (pyIter (.ref s.heap.objs.size)) (FA X Y U tg R) E { s with heap:=s.heap.push { cls:=.type "range",data:=.fields #[.int lo t,.int hi u,.int 1 v] },toks:=tk }:=by
 refine wpAny_pyIter_range (IsRange.new ..) (small_one h1 h2 h3 h4) ?_;have I1:Inv X Y U H { s with heap:=s.heap.push { cls:=.type "range",data:=.fields #[.int lo t,.int hi u,.int 1 v] },toks:=tk }:=I.kept λb o e=>tz _ e
 refine⟨(s.heap.push { cls:=.type "range",data:=.fields #[.int lo t,.int hi u,.int 1 v] }).objs.size,[(s.heap.push { cls:=.type "range",data:=.fields #[.int lo t,.int hi u,.int 1 v] }).objs.size],_,_,H,rfl,
  I1.kept (t':=tk) λb o e=>tz _ e,qk _ lo (hi-lo).toNat,?_,λb hb=>?_,q⟩
 .have e1:lo+((0:Nat):Int)*1=lo:=by simp
  have e2:(((hi-lo).toNat:Nat):Int)-((0:Nat):Int)=Builtin.Range.rangeSize lo hi 1:=by rw[rangeSize_one];split<;>omega
  show IsRangeIter _ _ (lo+((0:Nat):Int)*1) ((((hi-lo).toNat:Nat):Int)-((0:Nat):Int)) 1;rw[e1,e2];exact ul _ rfl
 .have e:b=(s.heap.push { cls:=.type "range",data:=.fields #[.int lo t,.int hi u,.int 1 v] }).objs.size:=by simpa using hb
  subst e;exact I1.vb (re _) (I1.hok.fresh (re _))
abbrev E6 (ta:TA):TI:=λU H R=>ta U H λvs H1=>∃ j:Int,vs=[.int j]/\ -(2 ^ 62)<=j/\j<2 ^ 62/\R (EN 0 j.toNat) H1
def uN {a:Expr}{ta:TA}{p:Pos}(hg:Gl X "range") (hm:X.mg "range"=none) (ha:PA X [a] ta) (hs:bv [a] X.env=[(false,eval a X.env)]:=by rfl):PI X tg (.Call (.Name "range" p) [a] [] pos) (E6 ta):=by
 intro Y s U H R I h;refine Call_ (jD I hg hm boot_range (PyProof.Rows.callWith_type1 (aC (ha pos Y s U H _ I h) λus s1 ⟨vs,H1,I1,r1,q1⟩=>?_) hs rfl));obtain⟨j,e,q1,q2,q⟩:=q1;subst e;cases r1 with
 |cons r rr=>
  cases rr;obtain⟨t,rfl⟩:=r;exact call_range_1 (wj I1 nofun nofun q1 q2 (by simpa using q))
abbrev Iu (wi:TI)(g:TG)(tb:TS):TS:=λD U H=>wi U H λJ H1=>∃ W:Nat->Nat->St->Hp->Prop,(∃ m,W 0 m U H1)/\∀ i m U H,W i m U H->
 (J.stop i H/\D.nx U H)\/(J.go i H/\∃ N:St->Hp->Prop,(∀ σ' H',N σ' H'->∃ m',m'<m/\W (i+1) m' σ' H')/\∀ x H',J.yld i H x H'->g x U H' λσ2 H2=>tb { D with nx:=N,ct:=N,bk:=D.nx } σ2 H2)
abbrev lU (fp:List Addr)(h:Heap):List (Addr×Obj):=fp.filterMap λb=>(h.get? b).map λo=>(b,o)
def bj {o:Obj}(hb:b ∈ fp)(e:h.get? b=some o):(b,o) ∈ lU fp h:=List.mem_filterMap.mpr ⟨b,hb,by rw[e];rfl⟩
def tY {p:Addr×Obj}(hp:p ∈ lU fp h):p.1 ∈ fp/\h.get? p.1=some p.2:=by
 obtain⟨b,hb,e⟩:=List.mem_filterMap.mp hp;cases q:h.get? b with
 |none=>rw[q]at e;cases e
 |some o=>
  rw[q]at e;have e':(b,o)=p:=Option.some.inj e;subst e';exact⟨hb,q⟩
def Inv.pinned (I:Inv X Y U H s)(hf:∀ b ∈ fp,ip X Y H b) (ho:∀ b ∈ fp,∃ o,s.heap.get? b=some o/\∀ v,o.data≠.cell v):Inv X (Y++lU fp s.heap) U H s:=
 I.lM λp hp=>(mem_append.mp hp).elim (λz=>I.pin p (io _ z)) λz=>by
  obtain⟨hb,e⟩:=tY z;obtain⟨f0,f1,f2,_⟩:=hf p.1 hb;obtain⟨o,e',d⟩:=ho p.1 hb;rw[e]at e';cases e';exact⟨e,f0,f1,f2,d⟩
def Inv.dN {pl:JV}(I:Inv X (Y++pl) U H s):Inv X Y U H s:=I.lM λp hp=>I.pin p (io _ (mem_append_left _ hp))
def C9 {iter:Expr}{wi:TI}{g:TG}{tb:TS}(hp:PassesOwn (model X.prog X.w) X.A X.env X.xe)(hc:X.calm=true)(hi:PI X tg iter wi)(hg:PG X tg g)(hb:yK X body tb)
  (hs:∀ x,foldedSetIterable iter X.env x=pure x:=by intro _;rfl):PS X (.For tg iter body [] pos) (Iu wi g tb):=by
 intro Y s U H D I h;refine wpAny_For (aC (hi Y s U H _ I h) λv s1 h1=>aC h1 λitv s2 h2=>?_) hs;obtain⟨it,fp,tn,J,H2,e,I2,T,qN,f2,W,⟨m0,w0⟩,turn⟩:=h2;subst e;have stat:∀ {H':Hp},(∀ b ∈ fp,H' b=none)->∀ b ∈ fp,ip X Y H' b:=λhn b hb=>⟨hn b hb,(f2 b hb).2⟩
 refine codeAny_forLoop_any (λn s'=>∃ i σ' H',Inv X Y σ' H' s'/\tn i s'.heap/\(∀ b ∈ fp,H' b=none)/\W i n σ' H') ?_ m0 ⟨0,U,H2,I2,qN,λb hb=>(f2 b hb).1,w0⟩;rintro n s3 ⟨i,σ3,H3,I3,st3,fr3,w3⟩;rcases turn i n σ3 H3 w3 with⟨stop,qn⟩|⟨go,N,hN,step⟩
 .refine wpAny_passesOwn hp (aC (T.done X rfl rfl rfl hc i Y s3 σ3 H3 X.xe I3 (stat fr3) st3 stop) λr s4 ⟨hr,I4⟩=>?_);subst hr;exact wpAny_execs_nil ⟨σ3,H3,I4,qn⟩
 .refine wpAny_passesOwn hp (aC (T.item X rfl rfl rfl hc i Y s3 σ3 H3 X.xe I3 (stat fr3) st3 go) λr s4 ⟨u,hr,h4⟩=>?_);subst hr;refine wpAny_passesOwn hp (aC h4 λ_ s5 ⟨x,H5,I5,r5,y5,st5,fr5⟩=>?_);have I5':=I5.pinned (stat fr5) (T.obj _ _ st5);refine wpAny_passesOwn hp (aC (hg _ s5 σ3 H5 x u _ I5' r5 (step x H5 y5)) λ_ s6 ⟨σ6,H6,I6,q6⟩=>?_);refine wpAny_passesOwn hp (aC (hb _ s6 σ6 H6 _ I6 q6) λf s7 q7=>?_);have again:∀ {σ7:St}{H7:Hp},Inv X (Y++lU fp s5.heap) σ7 H7 s7->N σ7 H7->∃ m,m<n/\∃ i σ' H',Inv X Y σ' H' s7/\tn i s7.heap/\(∀ b ∈ fp,H' b=none)/\W i m σ' H':=λ{σ7 H7} I7 n7=>by
   obtain⟨m',hm,w7⟩:=hN σ7 H7 n7;refine⟨m',hm,i+1,σ7,H7,I7.dN,T.keep _ _ _ st5 λb hb o e=>(I7.pin (b,o) (io _ (io _ (bj hb e)))).1,λb hb=>?_,w7⟩;obtain⟨o,e,d⟩:=T.obj _ _ st5 b hb;exact(I7.pin (b,o) (io _ (io _ (bj hb e)))).2.1
  cases f with
  |next=>obtain⟨σ7,H7,I7,n7⟩:=q7;exact again I7 n7
  |cont=>obtain⟨σ7,H7,I7,n7⟩:=q7;exact again I7 n7
  |brk=>obtain⟨σ7,H7,I7,q7⟩:=q7;exact⟨σ7,H7,I7.dN,q7⟩
  |ret v=>obtain⟨x7,σ7,H7,I7,r7,q7⟩:=q7;exact⟨x7,σ7,H7,I7.dN,r7,q7⟩
end
@[reducible]def R2:=V->V->Hp->VK->Prop
abbrev cz (X:Cx)(f:Value->Value->Sem Value)(r:R2):Prop:=
 ∀ (Y:JV) (s:Shared) (U:St) (H:Hp) (x y:V) (v u:Value) (Q:VK),Inv X Y U H s->RelV x v->RelV y u->r x y H Q->
  wpAny (model X.prog X.w) X.A (f v u) (EP X Y U Q) X.xe s
abbrev Hf (X:Cx)(f:Value->Sem Value)(r:V->Hp->VK->Prop):Prop:=
 ∀ (Y:JV) (s:Shared) (U:St) (H:Hp) (x:V) (v:Value) (Q:VK),Inv X Y U H s->RelV x v->r x H Q->
  wpAny (model X.prog X.w) X.A (f v) (EP X Y U Q) X.xe s
abbrev cg (X:Cx)(f:Value)(r:List V->Hp->VK->Prop):Prop:=
 ∀ (Y:JV) (s:Shared) (U:St) (H:Hp) (xs:List V) (us:List Value) (Q:VK),Inv X Y U H s->Vals xs us->r xs H Q->
  wpAny (model X.prog X.w) X.A (call f us) (EP X Y U Q) X.xe s
abbrev Hx (X:Cx)(r:V->Hp->(Bool->Hp->Prop)->Prop):Prop:=
 ∀ (Y:JV) (s:Shared) (U:St) (H:Hp) (x:V) (v:Value) (Q:Bool->Hp->Prop),Inv X Y U H s->RelV x v->r x H Q->
  wpAny (model X.prog X.w) X.A (truthy v) (TP X Y U Q) X.xe s
abbrev Hb (r:R2)(ta tb:TE):TE:=λU H Q=>ta U H λx H1=>tb U H1 λy H2=>r x y H2 Q
abbrev JL (r:V->Hp->VK->Prop)(ta:TE):TE:=λU H Q=>ta U H λx H1=>r x H1 Q
abbrev rI (C:Int->Int->Prop)(g:Int->Int->V):R2:=λx y H Q=>∃ i j,x=.int i/\y=.int j/\C i j/\Q (g i j) H
abbrev yA (g:Int->Int->V):R2:=λx y H Q=>∃ i j,x=.int i/\y=.int j/\Q (g i j) H
abbrev rU (g:Int->V):V->Hp->VK->Prop:=λx H Q=>∃ i,x=.int i/\Q (g i) H
variable {f:Value->Value->Sem Value}{r:R2}{g:Int->Int->Int}
section
variable {X:Cx}{a b c:Expr}{ta tb tc:TE}{pos:Pos}
def CW (ha:PE X a ta)(hb:PE X b tb){R:V->V->Hp->Prop}(I:Inv X Y U H s)
  (h:ta U H λx H1=>tb U H1 λy H2=>R x y H2)
  (hf:∀ v u s2 x y H2,Inv X Y U H2 s2->RelV x v->RelV y u->R x y H2->wpAny (model X.prog X.w) X.A (f v u) Q X.xe s2):
  wpAny (model X.prog X.w) X.A (eval a X.env) (λv s₁=>wpAny (model X.prog X.w) X.A (eval b X.env) (λu s₂=>wpAny (model X.prog X.w) X.A (f v u) Q X.xe s₂) X.xe s₁) X.xe s:=by
 refine aC (ha Y s U H _ I h) λv s1 ⟨x,H1,I1,r1,q1⟩=>?_
 refine aC (hb Y s1 U H1 _ I1 q1) λu s2 ⟨y,H2,I2,r2,q2⟩=>?_
 exact hf v u s2 x y H2 I2 r1 r2 q2
def Gr (ho:cz X (binaryOp op) r)(ha:PE X a ta)(hb:PE X b tb):PE X (.BinOp a op b pos) (Hb r ta tb):=by
 intro Y s U H Q I h;exact wpAny_BinOp (CW ha hb I h λv u s2 x y H2 I2 rx ry q=>ho Y s2 U H2 x y v u Q I2 rx ry q)
def FT {op:UnaryOp}{r:V->Hp->VK->Prop}(ho:Hf X (unaryOp op) r)(ha:PE X a ta):PE X (.UnaryOp op a pos) (JL r ta):=by
 intro Y s U H Q I h;exact UnaryOp_ (aC (ha Y s U H _ I h) λv s1 ⟨x,H1,I1,r1,q1⟩=>ho Y s1 U H1 x v Q I1 r1 q1)
def He {C:Int->Int->Prop}
  (rule:∀ (i j:Int) (t u:Tok) (s:Shared) (Q:JU) (E:JU),C i j->Q (.int (g i j) s.toks) { s with toks:=s.toks+1 }->wpAny (model X.prog X.w) X.A (f (.int i t) (.int j u)) Q E s):
  cz X f (rI C λi j=>.int (g i j)):=by
 intro Y s U H x y v u Q I rx ry h;obtain⟨i,j,rfl,rfl,hc,q⟩:=h;obtain⟨t,rfl⟩:=rx;obtain⟨t',rfl⟩:=ry;exact rule i j t t' s _ _ hc ⟨.int (g i j),H,I.tok _,⟨_,rfl⟩,q⟩
def GB 
  (rule:∀ (i j:Int) (t u:Tok) (s:Shared) (Q:JU) (E:JU),Q (.int (g i j) s.toks) { s with toks:=s.toks+1 }->wpAny (model X.prog X.w) X.A (f (.int i t) (.int j u)) Q E s):
  cz X f (yA λi j=>.int (g i j)):=by
 intro Y s U H x y v u Q I rx ry h;obtain⟨i,j,rfl,rfl,q⟩:=h;obtain⟨t,rfl⟩:=rx;obtain⟨t',rfl⟩:=ry;exact rule i j t t' s _ _ ⟨.int (g i j),H,I.tok _,⟨_,rfl⟩,q⟩
def Be {g:Int->Int->Bool}
  (rule:∀ (i j:Int) (t u:Tok) (s:Shared) (Q:JU) (E:JU),Q (.bool (g i j)) s->wpAny (model X.prog X.w) X.A (f (.int i t) (.int j u)) Q E s):
  cz X f (yA λi j=>.bl (g i j)):=by
 intro Y s U H x y v u Q I rx ry h;obtain⟨i,j,rfl,rfl,q⟩:=h;obtain⟨t,rfl⟩:=rx;obtain⟨t',rfl⟩:=ry;exact rule i j t t' s _ _ ⟨.bl (g i j),H,I,rfl,q⟩
abbrev Hw (i j:Int):Prop:=0<j/\j<1073741824
abbrev zS (i j:Int):Prop:=0<=j/\j<=1000000/\i.natAbs<2 ^ 64
abbrev tK (i j:Int):Prop:=(-(2 ^ 64)<i/\i<2 ^ 64)\/(-(2 ^ 64)<j/\j<2 ^ 64)
def tK.ok {i j:Int}(h:tK i j):IntMulOk i j:=by
 rcases h with⟨h1,h2⟩|⟨h1,h2⟩
 .exact .of_left (intBits_le_64 h1 h2)
 .exact .of_right (intBits_le_64 h1 h2)
def C3:cz X (binaryOp .Add) (yA λi j=>.int (i+j)):=GB λ_ _ _ _ _ _ _ q=>add_int q
def DG:cz X (binaryOp .Sub) (yA λi j=>.int (i-j)):=GB λ_ _ _ _ _ _ _ q=>sub_int q
def Ef:cz X (binaryOp .Mult) (rI tK λi j=>.int (i*j)):=He λ_ _ _ _ _ _ _ hc q=>mul_int q hc.ok
def Ak:cz X (binaryOp .FloorDiv) (rI Hw λi j=>.int (i / j)):=He λi j _ _ _ _ _ hc q=>by
 have h1:(0:Int)<j:=hc.1;have h2:j<1073741824:=hc.2;exact floordiv_int nofun (by rw[Int.fdiv_eq_ediv_of_nonneg i nofun];exact q) (.inl (PyProof.noPylong_small nofun))
def Ci:cz X (binaryOp .Mod) (rI (λ_ j=>0<j) λi j=>.int (i % j)):=He λi j _ _ _ _ _ hc q=>by
 have h1:(0:Int)<j:=hc;exact mod_int' nofun (by rw[Int.fmod_eq_emod_of_nonneg i nofun];exact q)
def DH:cz X (binaryOp .Pow) (rI zS λi j=>.int (i ^ j.toNat)):=He λ_ _ _ _ _ _ _ hc q=>pow_int_small hc.1 hc.2.1 hc.2.2 q
def Jv {f:Value->Sem Value}{g:Int->Int}
  (rule:∀ (i:Int) (t:Tok) (s:Shared) (Q:JU) (E:JU),Q (.int (g i) s.toks) { s with toks:=s.toks+1 }->wpAny (model X.prog X.w) X.A (f (.int i t)) Q E s):
  Hf X f (rU λi=>.int (g i)):=by
 intro Y s U H x v Q I rx h;obtain⟨i,rfl,q⟩:=h;obtain⟨t,rfl⟩:=rx;exact rule i t s _ _ ⟨.int (g i),H,I.tok _,⟨_,rfl⟩,q⟩
def DS:Hf X (unaryOp .USub) (rU λi=>.int (-i)):=Jv λ_ _ _ _ _ q=>neg_int q
end
section
variable {X:Cx}{a b c:Expr}{ta tb tc:TE}{pos:Pos}
def lr {Q:VK}{k k':Bool}(I:Inv X Y U H s)(q:Q (.bl k) H)(e:k=k'):EP X Y U Q (.bool k') s:=by
 subst e;exact⟨.bl k,H,I,rfl,q⟩
def E3:cz X (compareOp .Lt) (yA λi j=>.bl (decide (i<j))):=Be λ_ _ _ _ _ _ _ q=>lt_int q
def Gk:cz X (compareOp .LtE) (yA λi j=>.bl (decide (i<=j))):=Be λ_ _ _ _ _ _ _ q=>le_int q
def F8:cz X (compareOp .Gt) (yA λi j=>.bl (decide (j<i))):=Be λ_ _ _ _ _ _ _ q=>gt_int q
def Fq:cz X (compareOp .GtE) (yA λi j=>.bl (decide (j<=i))):=Be λ_ _ _ _ _ _ _ q=>ge_int q
def tQ:cz X (compareOp .In) (λx y H Q=>∃ i j,x=.str i/\y=.str j/\Q (.bl (!(Builtin.Str.occurrences j i 0 j.length 1).isEmpty)) H):=by
 intro Y s U H x y v u Q I rx ry h;obtain⟨i,j,rfl,rfl,q⟩:=h;obtain⟨t,rfl⟩:=rx;obtain⟨t',rfl⟩:=ry;exact in_str (lr I q rfl)
def Dv:cz X (compareOp .Is) (λx y H Q=>y=.non/\Q (.bl (decide (x=.non))) H):=by
 intro Y s U H x y v u Q I rx ry h;obtain⟨rfl,q⟩:=h;cases ry;refine is_none_gen (lr I q ?_);cases x<;>first
  |(cases rx;rfl)
  |(obtain⟨t,rfl⟩:=rx;rfl)
def Ax:cz X (compareOp .IsNot) (λx y H Q=>y=.non/\Q (.bl (!decide (x=.non))) H):=by
 intro Y s U H x y v u Q I rx ry h;obtain⟨rfl,q⟩:=h;cases ry;refine isnot_none_gen (lr I q ?_);cases x<;>first
  |(cases rx;rfl)
  |(obtain⟨t,rfl⟩:=rx;rfl)
def lK:cz X (compareOp .NotIn) (λx y H Q=>∃ i j,x=.str i/\y=.str j/\Q (.bl (!(!(Builtin.Str.occurrences j i 0 j.length 1).isEmpty))) H):=by
 intro Y s U H x y v u Q I rx ry h;obtain⟨i,j,rfl,rfl,q⟩:=h;obtain⟨t,rfl⟩:=rx;obtain⟨t',rfl⟩:=ry;exact notIn_str (lr I q rfl)
def zm {op:CmpOp}(ho:cz X (compareOp op) r)(ha:PE X a ta)(hb:PE X b tb)(hm:behindInMarks op b=false):PE X (.Compare a [op] [b] pos) (Hb r ta tb):=by
 intro Y s U H Q I h;exact wpAny_Compare1 (CW ha hb I h λv u s2 x y H2 I2 rx ry q=>ho Y s2 U H2 x y v u Q I2 rx ry q) hm
abbrev BC (t:TE):TT:=λU H Q=>t U H λx H'=>∃ k,x=.bl k/\Q k H'
def yv {op:CmpOp}(ho:cz X (compareOp op) r)(ha:PE X a ta)(hb:PE X b tb)(hm:behindInMarks op b=false):PT X (.Compare a [op] [b] pos) (BC (Hb r ta tb)):=by
 intro Y s U H Q I h;refine wpAny_isTrue_Compare1 (aC (ha Y s U H _ I h) λv s1 ⟨x,H1,I1,r1,q1⟩=>aC (hb Y s1 U H1 _ I1 q1) λu s2 ⟨y,H2,I2,r2,q2⟩=>
  aC (ho Y s2 U H2 x y v u _ I2 r1 r2 q2) λc s3 ⟨z,H3,I3,r3,k,e,q3⟩=>?_) hm
 subst e;cases r3;exact bm ⟨H3,I3,q3⟩
abbrev vT (r r':R2)(ta tb tc:TE):TE:=λU H Q=>ta U H λx H1=>tb U H1 λy H2=>r x y H2 λz H3=>∃ k,z=.bl k/\
 (if k=true then tc U H3 λw' H4=>r' y w' H4 Q else Q (.bl false) H3)
def wu {op op':CmpOp}{r':R2}(ho:cz X (compareOp op) r)(ho':cz X (compareOp op') r')(ha:PE X a ta)(hb:PE X b tb)(hc:PE X c tc)
  (hm:lastMarks [op,op'] [b,c]=false:=by with_unfolding_all rfl):PE X (.Compare a [op,op'] [b,c] pos) (vT r r' ta tb tc):=by
 intro Y s U H Q I h;refine Compare_chain (aC (ha Y s U H _ I h) λv s1 ⟨x,H1,I1,r1,q1⟩=>chain_link (aC (hb Y s1 U H1 _ I1 q1) λu s2 ⟨y,H2,I2,r2,q2⟩=>
  aC (ho Y s2 U H2 x y v u _ I2 r1 r2 q2) λd s3 ⟨z,H3,I3,r3,k,e,q3⟩=>?_)) hm
 subst e;cases r3;refine bm ?_;cases k with
 |false=>exact ite_ff ⟨.bl false,H3,I3,rfl,q3⟩
 |true=>exact ite_tt (chain_last (aC (hc Y s3 U H3 _ I3 q3) λw' s4 ⟨z',H4,I4,r4,q4⟩=>ho' Y s4 U H4 y z' u w' Q I4 r2 r4 q4))
def wk {op op':CmpOp}{r':R2}(ho:cz X (compareOp op) r)(ho':cz X (compareOp op') r')(ha:PE X a ta)(hb:PE X b tb)(hc:PE X c tc)
  (hm:lastMarks [op,op'] [b,c]=false:=by with_unfolding_all rfl):PT X (.Compare a [op,op'] [b,c] pos) (BC (vT r r' ta tb tc)):=by
 intro Y s U H Q I h;refine isTrue_chain (aC (ha Y s U H _ I h) λv s1 ⟨x,H1,I1,r1,q1⟩=>test_link (aC (hb Y s1 U H1 _ I1 q1) λu s2 ⟨y,H2,I2,r2,q2⟩=>
  aC (ho Y s2 U H2 x y v u _ I2 r1 r2 q2) λd s3 ⟨z,H3,I3,r3,k,e,q3⟩=>?_)) hm
 subst e;cases r3;refine bm ?_;cases k with
 |false=>
  obtain⟨k',e',q'⟩:=q3;cases e';exact ite_ff ⟨H3,I3,q'⟩
 |true=>
  refine ite_tt (test_last (aC (hc Y s3 U H3 _ I3 q3) λw' s4 ⟨z',H4,I4,r4,q4⟩=>aC (ho' Y s4 U H4 y z' u w' _ I4 r2 r4 q4) λd' s5 ⟨z2,H5,I5,r5,k2,e2,q5⟩=>?_));subst e2;cases r5;exact bm ⟨H5,I5,q5⟩
abbrev yB (K:W.Frag)(x:V)(H:Hp)(k:Bool):Prop:=
 match x with
 | .non=>k=false
 | .bl b=>k=b
 | .int i=>k=(i != 0)
 | .str y=>y.length<=ce/\k=((y.length:Int) != 0)
 | .byt y=>y.size<=ce/\k=((y.size:Int) != 0)
 | .ref p=>(∃ xs,aP K H p xs/\k= !xs.isEmpty)\/(∃ xs,a5 K H p xs/\k= !xs.isEmpty)\/∃ kvs,H p=some (.dK kvs)/\k= !kvs.isEmpty
 |_=>False
def pN {κ:Type}{kvs:List (κ×V)}{vs:List (κ×Value)}(r:KV kvs vs):(!vs.isEmpty)= !kvs.isEmpty:=by
 cases r<;>rfl
def jP {its:List Value}(r:Vals xs its):(!its.toArray.isEmpty)= !xs.isEmpty:=by
 cases r<;>simp
def dS:(ce:Nat)<2 ^ 63:=by rw[sizeLine_eq];decide
def Cd:Hx X (λx H Q=>∃ k,yB X.K x H k/\Q k H):=by
 intro Y s U H x v Q I rx h;obtain⟨k,e,q⟩:=h;have hl:=dS;have hs:ce=16777216:=sizeLine_eq;cases x with
 |non=>
  cases rx;have e':k=false:=e;subst e';exact truthy_none ⟨H,I,q⟩
 |bl b=>
  cases rx;have e':k=b:=e;subst e';exact bm ⟨H,I,q⟩
 |int i=>
  obtain⟨t,rfl⟩:=rx;have e':k=(i != 0):=e;subst e';exact PySem.P.truthy_int ⟨H,I,q⟩
 |str y=>
  obtain⟨t,rfl⟩:=rx;obtain⟨hy,e'⟩:y.length<=ce/\k=((y.length:Int) != 0):=e;subst e';exact PySem.P.truthy_str nofun ⟨H,I.tok _,q⟩
 |byt y=>
  obtain⟨t,rfl⟩:=rx;obtain⟨hy,e'⟩:y.size<=ce/\k=((y.size:Int) != 0):=e;subst e';exact W.truthy_bytes nofun ⟨H,I.tok _,q⟩
 |ref p=>
  cases rx;have e':(∃ xs,aP X.K H p xs/\k= !xs.isEmpty)\/(∃ xs,a5 X.K H p xs/\k= !xs.isEmpty)\/∃ kvs,H p=some (.dK kvs)/\k= !kvs.isEmpty:=e;rcases e' with⟨xs,hx,e'⟩|⟨xs,hx,e'⟩|⟨kvs,hx,e'⟩
  .subst e';obtain⟨its,r,pl,hz⟩:=I.list hx;have hlen:=r.length;exact wpAny_truthy_list pl.isList (by simp only[im];omega) ⟨H,I.tok _,by rw[jP r];exact q⟩
  .subst e';obtain⟨its,r,pl,hz⟩:=I.tuple hx;have hlen:=r.length;exact truthy_tuple pl (by simp only[im];omega) ⟨H,I.tok _,by rw[jP r];exact q⟩
  .subst e';obtain⟨hz,hS,vs,r,m⟩:kvs.length<=ce/\(p ==sysModules)=false/\∃ vs,KV kvs vs/\s.heap.DictOf (aJ X.prog X.w) p vs:=I.hok p _ hx;have hlen:kvs.length=vs.length:=Paired.length r;exact wpAny_truthy_dict hS m nofun ⟨H,I.tok _,by rw[pN r];exact q⟩
 |_=>exact(show False from e).elim
def vK (ha:PE X a ta)(he:∀ whole,isTrue a X.env whole=(do let v <-whole;standAt a.pos;holding [v] (truthy v))):
  PT X a (λU H Q=>ta U H λx H'=>∃ k,yB X.K x H' k/\Q k H'):=by
 intro Y s U H Q I h;exact isTrue_plain (aC (ha Y s U H _ I h) λv s1 ⟨x,H1,I1,r1,q1⟩=>Cd Y s1 U H1 x v Q I1 r1 q1) (he _)
def ql:cz X (binaryOp .Add) (λx y H Q=>∃ i j,x=.str i/\y=.str j/\i.length+j.length<=ce/\Q (.str (i++j)) H):=by
 intro Y s U H x y v u Q I rx ry h;obtain⟨i,j,rfl,rfl,hz,q⟩:=h;obtain⟨t,rfl⟩:=rx;obtain⟨t',rfl⟩:=ry;exact add_str (λt' tk=>⟨.str (i++j),H,I.tok _,⟨_,rfl⟩,q⟩) hz
def vals1 {x:V}(r:Vals [x] us):∃ u,us=[u]/\RelV x u:=by
 cases r with
 |cons r1 r2=>cases r2;exact⟨_,rfl,r1⟩
def vals2 {x y:V}(r:Vals [x,y] us):∃ u w',us=[u,w']/\RelV x u/\RelV y w':=by
 cases r with
 |cons r1 r2=>
  cases r2 with
  |cons r3 r4=>cases r4;exact⟨_,_,rfl,r1,r3⟩
def uy (hc:X.calm=true):cg X (.builtin "min") (λxs H Q=>∃ i j,xs=[.int i,.int j]/\Q (.int (if j<i then j else i)) H):=by
 intro Y s U H xs us Q I r h;obtain⟨i,j,rfl,q⟩:=h;obtain⟨u,w',rfl,⟨t,rfl⟩,⟨t',rfl⟩⟩:=vals2 r;refine min_two_ints (I.ok.hd hc) λh' tk k=>⟨_,H,I.kept k,?_,q⟩
 by_cases hj:j<i
 .rw[if_pos hj,if_pos hj];exact⟨_,rfl⟩
 .rw[if_neg hj,if_neg hj];exact⟨_,rfl⟩
def uD:cg X (.type "int") (λxs H Q=>(∃ i,xs=[.int i]/\Q (.int i) H)\/∃ k,xs=[.bl k]/\Q (.int (if k then 1 else 0)) H):=by
 intro Y s U H xs us Q I r h;rcases h with⟨i,rfl,q⟩|⟨k,rfl,q⟩
 .obtain⟨u,rfl,t,rfl⟩:=vals1 r;exact call_int_int ⟨.int i,H,I,⟨_,rfl⟩,q⟩
 .obtain⟨u,rfl,r1⟩:=vals1 r;cases r1;exact call_int_bool ⟨.int (if k then 1 else 0),H,I.tok _,⟨_,rfl⟩,q⟩
def mD:cg X (.type "str") (λxs H Q=>∃ i,xs=[.int i]/\i.natAbs.log2<1920/\Q (.str (toString i)) H):=by
 intro Y s U H xs us Q I r h;obtain⟨i,rfl,hz,q⟩:=h;obtain⟨u,rfl,t,rfl⟩:=vals1 r;exact PySem.P.str_of_int hz ⟨.str _,H,I.tok _,⟨_,rfl⟩,q⟩
abbrev F6 (K:W.Frag)(x:V)(H:Hp)(n:Nat):Prop:=
 match x with
 | .str y=>y.length<=ce/\n=y.length
 | .byt y=>y.size<=ce/\n=y.size
 | .ref p=>(∃ xs,aP K H p xs/\n=xs.length)\/∃ xs,a5 K H p xs/\n=xs.length
 |_=>False
def vg:cg X (.builtin "len") (λxs H Q=>∃ x n,xs=[x]/\F6 X.K x H n/\Q (.int n) H):=by
 intro Y s U H xs us Q I r h;obtain⟨x,n,rfl,e,q⟩:=h;obtain⟨u,rfl,rx⟩:=vals1 r;have hl:=dS;have hs:ce=16777216:=sizeLine_eq;cases x with
 |str y=>
  obtain⟨t,rfl⟩:=rx;obtain⟨hy,e'⟩:y.length<=ce/\n=y.length:=e;subst e';exact len_str nofun ⟨.int _,H,I.tok _,⟨_,rfl⟩,q⟩
 |byt y=>
  obtain⟨t,rfl⟩:=rx;obtain⟨hy,e'⟩:y.size<=ce/\n=y.size:=e;subst e';exact W.len_bytes nofun ⟨.int _,H,I.tok _,⟨_,rfl⟩,q⟩
 |ref p=>
  cases rx;have e':(∃ xs,aP X.K H p xs/\n=xs.length)\/∃ xs,a5 X.K H p xs/\n=xs.length:=e;rcases e' with⟨xs,hx,e'⟩|⟨xs,hx,e'⟩
  .subst e';obtain⟨its,r',pl,hz⟩:=I.list hx;have hlen:=r'.length;exact Calls.call_len_list pl.isList (by simp only[im];omega) ⟨.int xs.length,H,I.tok _,⟨_,by simp only[im];rw[hlen]⟩,q⟩
  .subst e';obtain⟨its,r',pl,hz⟩:=I.tuple hx;have hlen:=r'.length;exact len_tuple pl (by simp only[im];omega) ⟨.int xs.length,H,I.tok _,⟨_,by simp only[im];rw[hlen]⟩,q⟩
 |_=>exact(show False from e).elim
end
structure pU (h:Heap) (x dx C:Addr) (mA:JW):Prop where
 obj:h.get? x=some (W.instObj C dx)
 ns:h.Ns1 dx mA
 ne:dx≠x
variable {mA:JW}
def gK {dx:Addr}(n:h.Ns1 dx mA):∃ od,h.get? dx=some od/\∀ name,W.lookIn name od=some (mA name):=by
 obtain⟨o,es,ep,ho,hd,hk,_,hm⟩:=n;refine⟨o,ho,λname=>?_⟩;have e:=hm name;unfold nsFind findBy at e;rw[<-Array.find?_toList]at e;unfold W.lookIn;rw[hd];dsimp only
 split
 .rename_i y q;rw[q]at e;exact congrArg some e
 .rename_i q;rw[q]at e;have a:es.toList.any (·.refKey)=false:=by
   rw[any_eq_false];intro y hy;obtain⟨z,t,hkey⟩:=hk y (Array.mem_toList_iff.mp hy);simp[DictEntry.refKey,hkey]
  have a':¬ es.toList.any (·.refKey)=true:=by rw[a];exact Bool.false_ne_true
  rw[if_neg a'];exact congrArg some e
variable {C:Addr}
def pU.look {x dx:Addr}(I:pU h x dx C mA):∃ od,W.InstAt h x (W.instObj C dx) C (some od)/\∀ name,W.lookIn name od=some (mA name):=
 let⟨od,ho,hl⟩:=gK I.ns
 ⟨od,⟨I.obj,rfl,rfl,ho⟩,hl⟩
variable {pl:Sem Bool}{kw:List (Str×Value)}
section
variable {prog:Program}{w:World}{A:Around}{E:JU}{s:Shared}{K:W.Frag}{x dx C f:Addr}{mA:JW}{name:Str}{v:Value}
def get_map {expr:Bool}(X:K.In s.heap)(I:pU s.heap x dx C mA)(hg:W.plainGet K C name=true)(hh:W.hasDictIn K C=true)
  (ha:W.findIn K (.ref C) name=some none) (hv:mA name=some v) (hv':W.handedIn v=true) (h:Q v { s with toks:=s.toks+1 }):
  wpAny (model prog w) A (getAttr (.ref x) name expr) Q E s:=by
 obtain⟨od,J,hl⟩:=I.look;exact W.get_value X J (W.plainGet_of hg).1 (W.findObj_own hh ha rfl (by rw[hl,hv])) hv' h
def wM {Q:Value×List Value->Shared->Prop}(X:K.In s.heap)(I:pU s.heap x dx C mA)(hg:W.plainGet K C name=true)
  (hf:W.findIn K (.ref C) name=some (some (.ref f))) (ht:W.isFn K (.ref f)=true) (hv:mA name=none) (h:Q (.ref f,[.ref x]) s):
  wpAny (model prog w) A (getMethod (.ref x) name pl) Q E s:=by
 obtain⟨od,J,hl⟩:=I.look;exact W.method_fn X J (W.plainGet_of hg).1 (W.plainGet_of hg).2 hf (beq_iff_eq.mp ht) (by show(W.lookIn name od).map (·.isSome)=some false;rw[hl,hv];rfl) h
def zw {ns:List Str}{Q:JT}(X:K.In s.heap)(I:pU s.heap x dx C mA)
  (hs:W.findIn K (.ref C) "__setattr__"=some (some (.builtin "object.__setattr__"))) (hp:W.plainOver K C=true) (ht:W.takerIn K C name=some none) (hh:W.hasDictIn K C=true)
  (hw:PySem.Within mA ns) (hsz:ns.length<=ce)
  (h:∀ h',pU h' x dx C (λy=>if y=name then some v else mA y)->Heap.SameBut dx s.heap h'->Q () { s with heap:=h',toks:=s.toks+2 }):
  wpAny (model prog w) A (setAttr (.ref x) name v) Q E s:=by
 obtain⟨od,J,hl⟩:=I.look;refine W.set_plain X J hs (W.osa_open (s:={ s with toks:=s.toks+1 }) (r:=none) X J hp ht λb=>?_);obtain⟨cd,hc,hd'⟩:=W.any_some hh;have hx:s.heap.get? x=some ⟨.ref C,some dx,.plain,#[]⟩:=I.obj;refine am (ap (am (am (wpAny_loadPart hx (am (W.Looks.here (s:={ s with toks:=s.toks+1 }) (W.looks_clsIn X hc) ?_))))));rw[hd'];refine ap (a:=some dx) (am (ap (am ?_)));refine wpAny_nsSet1 (s:={ s with toks:=s.toks+1 }) I.ns λh' hn2 hs2=>?_
 obtain⟨oD,esD,epD,hoD,hdD,hcD⟩:=hn2.count (PySem.Within.cons name v hw);refine am (wpAny_lookBehind hoD (by rw[hdD];exact pastItsLine_dict (Nat.le_trans hcD (by rw[length_cons];omega))) ?_);exact ap (h _ ⟨(hs2.2 _ (Ne.symm I.ne)).trans I.obj,hn2,I.ne⟩ hs2)
def wF {R:Result->Shared->Prop}{vs:List Value}(X:K.In s.heap)(hm:W.makesIn K C=true)
  (hi:W.findIn K (.ref C) "__init__"=some (some (.ref f))) (hf:W.typeIn K (.ref f)=some (.type "function"))
  (h:codeAny (model prog w) (A.under (.builtin "type.__call__" ⟨.ref C::vs,kw⟩)) (.call (.ref f) ⟨.ref (s.heap.objs.size+1)::vs,kw⟩) (W.InitBack (s.heap.objs.size+1) R)
   { s with heap:=(s.heap.push W.emptyDict).push (W.instObj C s.heap.objs.size) }):
  codeAny (model prog w) A (.call (.ref C) ⟨vs,kw⟩) R s:=by
 obtain⟨hh,g,d,t,os⟩:=s;exact W.make_core (W.makes_of X hm) (W.looks_findIn X hi) (λself=>W.bind_fn X self hf) (.inl rfl) h
end
abbrev cw (f:Str)(v:V):List (Str×V)->List (Str×V)
 | []=>[(f,v)]
 |(g,x)::r=>if g=f then(g,v)::r else(g,x)::cw f v r
def dZ (f g:Str)(v:V):∀ fs:List (Str×V),(cw f v fs).lookup g=if g=f then some v else fs.lookup g
 | []=>by
  show List.lookup g [(f,v)]=_
  by_cases h:g=f
  .have hb:(g ==f)=true:=beq_iff_eq.mpr h;simp only[List.lookup,hb,if_pos h]
  .have hb:(g ==f)=false:=beq_eq_false_iff_ne.mpr h;simp only[List.lookup,hb,if_neg h]
 |(k,x)::r=>by
  have ih:=dZ f g v r;rw[show cw f v ((k,x)::r)=(if k=f then(k,v)::r else(k,x)::cw f v r) from rfl]
  by_cases hk:k=f
  .rw[if_pos hk]
   by_cases h:g=k
   .have hb:(g ==k)=true:=beq_iff_eq.mpr h;simp only[List.lookup,hb,if_pos (h.trans hk)]
   .have hb:(g ==k)=false:=beq_eq_false_iff_ne.mpr h;simp only[List.lookup,hb,if_neg (λe:g=f=>h (e.trans hk.symm))]
  .rw[if_neg hk]
   by_cases h:g=k
   .have hb:(g ==k)=true:=beq_iff_eq.mpr h;simp only[List.lookup,hb,if_neg (λe:g=f=>hk (h.symm.trans e))]
   .have hb:(g ==k)=false:=beq_eq_false_iff_ne.mpr h;simp only[List.lookup,hb];exact ih
def cE (f:Str)(v:V):∀ fs:List (Str×V),f ∈ (cw f v fs).map (·.1)/\∀ g,g ∈ fs.map (·.1)->g ∈ (cw f v fs).map (·.1)
 | []=>⟨by simp[cw],λg h=>by simp at h⟩
 |(k,x)::r=>by
  obtain⟨i1,i2⟩:=cE f v r;rw[show cw f v ((k,x)::r)=(if k=f then(k,v)::r else(k,x)::cw f v r) from rfl]
  by_cases hk:k=f
  .rw[if_pos hk];subst hk;exact⟨by simp,λg h=>by simpa using h⟩
  .rw[if_neg hk];refine⟨?_,λg h=>?_⟩
   .rw[map_cons];exact f8 _ i1
   .rw[map_cons]at h⊢;rcases lw.mp h with e|e
    .exact lw.mpr (.inl e)
    .exact f8 _ (i2 g e)
def dY (f:Str)(v:V):∀ fs:List (Str×V),(cw f v fs).length<=fs.length+1
 | []=>by simp[cw]
 |(k,x)::r=>by
  have ih:=dY f v r;rw[show cw f v ((k,x)::r)=(if k=f then(k,v)::r else(k,x)::cw f v r) from rfl]
  by_cases hk:k=f
  .rw[if_pos hk,length_cons,length_cons];omega
  .rw[if_neg hk,length_cons,length_cons];omega
def cV.some_of {o:Option Value}(r:cV (some v) o):∃ u,o=some u/\RelV v u:=by
 cases o with
 |none=>exact(show False from r).elim
 |some u=>exact⟨u,rfl,r⟩
def cV.none_of {o:Option Value}(r:cV none o):o=none:=by
 cases o with
 |none=>rfl
 |some u=>exact(show False from r).elim
def kE (r:RelV v u):W.handedIn u=true:=by
 cases v with
 |non=>cases(show u=Value.none from r);rfl
 |bl b=>cases(show u=Value.bool b from r);rfl
 |int i=>obtain⟨t,e⟩:=(show ∃ t,u=Value.int i t from r);cases e;rfl
 |str x=>obtain⟨t,e⟩:=(show ∃ t,u=Value.str x t from r);cases e;rfl
 |byt b=>obtain⟨t,e⟩:=(show ∃ t,u=Value.bytes b t from r);cases e;rfl
 |flt b=>obtain⟨t,e⟩:=(show ∃ t,u=Value.float b t from r);cases e;rfl
 |ref a=>cases(show u=Value.ref a from r);rfl
 |ty n=>cases(show u=Value.type n from r);rfl
section
variable {P:Program}{w:World}{H H':Hp}{h h':Heap}{a C dx:Addr}{fs fs':List (Str×V)}
def eh (hok:fq P w H h)(e:H a=some (.ins C dx fs)):∃ mA,pU h a dx C mA/\(∀ f,cV (fs.lookup f) (mA f))/\PySem.Within mA (fs.map (·.1))/\fs.length<=1000/\H dx=some (.own a):=by
 obtain⟨d,z,ne,ob,mA,n,r,q⟩:=(show ax P w H h a (.ins C dx fs) from hok a _ e);exact⟨mA,⟨ob,n,ne⟩,r,q,z,d⟩
end
structure Ar (K:W.Frag) (C:Addr):Prop where
 pg:W.plainGet K C Str.empty=true
 hd:W.hasDictIn K C=true
 po:W.plainOver K C=true
 sa:W.findIn K (.ref C) "__setattr__"=some (some (.builtin "object.__setattr__"))
def Ar.get (c:Ar K C)(f:Str):W.plainGet K C f=true:=c.pg
abbrev dD (K:W.Frag)(C:Addr)(f:Str):Prop:=W.findIn K (.ref C) f=some none
def dD.Gb {f:Str}(n:dD K C f):W.takerIn K C f=some none:=by
 unfold W.takerIn;rw[show W.findIn K (.ref C) f=some none from n]
 rfl
structure Meth (K:W.Frag) (C:Addr) (m:Str) (f:Addr):Prop where
 at_:W.findIn K (.ref C) m=some (some (.ref f))
 fn:W.isFn K (.ref f)=true
 kp:W.keepIn K (.ref f)=true
section
variable {X:Cx}{Y:JV}{U:St}{H:Hp}{s:Shared}{a C dx:Addr}{fs:List (Str×V)}{f:Str}{v:V}{A:Around}{E:JU}
def jn {b:Bool}(I:Inv X Y U H s)(e:H a=some (.ins C dx fs))(c:Ar X.K C)(n:dD X.K C f)(l:fs.lookup f=some v)
  (h:∀ u s',Inv X Y U H s'->RelV v u->Q u s'):wpAny (model X.prog X.w) A (getAttr (.ref a) f b) Q E s:=by
 obtain⟨mA,O,r,_,_,_⟩:=eh I.hok e;obtain⟨u,hu,ru⟩:=cV.some_of (v:=v) (o:=mA f) (by rw[<-l];exact r f);exact get_map I.bw O (c.get f) c.hd n hu (kE ru) (h u _ (I.tok _) ru)
def qO {m:Str}{g:Addr}{Q:Value×List Value->Shared->Prop}(I:Inv X Y U H s)(e:H a=some (.ins C dx fs))(c:Ar X.K C)(k:Meth X.K C m g)(l:fs.lookup m=none)
  (h:Q (.ref g,[.ref a]) s):wpAny (model X.prog X.w) A (getMethod (.ref a) m pl) Q E s:=by
 obtain⟨mA,O,r,_,_,_⟩:=eh I.hok e;have hn:mA m=none:=cV.none_of (by rw[<-l];exact r m);exact wM I.bw O (c.get m) k.at_ k.fn hn h
def jV {y:V}{Q:JT}(I:Inv X Y U H s)(e:H a=some (.ins C dx fs))(c:Ar X.K C)(n:dD X.K C f)(hl:fs.length<1000)(ry:RelV y u)
  (h:∀ s',Inv X Y U (upd H a (.ins C dx (cw f y fs))) s'->Q () s'):wpAny (model X.prog X.w) A (setAttr (.ref a) f u) Q E s:=by
 obtain⟨mA,O,r,wi,_,ho⟩:=eh I.hok e;have hz:(fs.map (·.1)).length<=ce:=by rw[cr,sizeLine_eq];omega
 refine zw I.bw O c.sa c.po n.Gb c.hd wi hz λh' O' sb=>h _ ?_
 have hd:∃ o,h'.get? dx=some o:=let⟨o,_,_,e',_⟩:=O'.ns;⟨o,e'⟩;refine I.write (x:=a) (e:=dx) (by rw[e];exact True.intro) (.inr ho) (λb q hb z=>(sb.2 b hb).trans z) hd ?_;refine⟨by rw[ag O.ne];exact ho,?_,O.ne,O'.obj,_,O'.ns,λg=>?_,λg hg=>?_⟩
 .have:=dY f y fs;omega
 .show cV ((cw f y fs).lookup g) (if g=f then some u else mA g);rw[dZ]
  by_cases q:g=f
  .rw[if_pos q,if_pos q];exact ry
  .rw[if_neg q,if_neg q];exact r g
 .by_cases q:g=f
  .rw[q];exact(cE f y fs).1
  .refine(cE f y fs).2 g (wi g λz=>hg ?_);show(if g=f then some u else mA g)=none;rw[if_neg q];exact z
def Inv.made (I:Inv X Y U H s):Inv X Y U (upd (upd H s.heap.objs.size (.own (s.heap.objs.size+1))) (s.heap.objs.size+1) (.ins C s.heap.objs.size []))
  { s with heap:=(s.heap.push W.emptyDict).push (W.instObj C s.heap.objs.size) }:=by
 have e1:(s.heap.push W.emptyDict).get? s.heap.objs.size=some W.emptyDict:=ul s.heap rfl;have e2:((s.heap.push W.emptyDict).push (W.instObj C s.heap.objs.size)).get? (s.heap.objs.size+1)=some (W.instObj C s.heap.objs.size):=by
  have:=ul (s.heap.push W.emptyDict) (o:=W.instObj C s.heap.objs.size) rfl
  rwa [Heap.size_push]at this
 have e3:(s.heap.push W.emptyDict).Ns s.heap.objs.size (λ_=>none):=⟨W.emptyDict,#[],_,e1,rfl,(λe he=>absurd he (by simp)),λ_=>rfl⟩;have I1:=I.laid (a:=s.heap.objs.size) (o:=.own (s.heap.objs.size+1)) (h':=s.heap.push W.emptyDict) (t':=s.toks) (λb u q=>tz _ q) (re _) ⟨_,e1⟩;refine I1.laid (a:=s.heap.objs.size+1) (o:=.ins C s.heap.objs.size []) (t':=s.toks) (λb u q=>tz _ q) (Nat.le_of_eq (Heap.size_push _ _)) ?_;have ne:s.heap.objs.size≠s.heap.objs.size+1:=pi (Nat.lt_succ_self _);refine⟨by rw[ag ne,ar],Nat.zero_le _,ne,e2,λ_=>none,(Heap.Ns1.of_empty e3).at λo q=>tz _ q,λ_=>True.intro,λy hy=>absurd rfl hy⟩
def yr {prog:Program}{env:Env}(hb:attributeBase e f env (eval e env)=eval e env)
  (h:wpAny (model prog w) A (eval e env) (λo s₁=>wpAny (model prog w) A (getAttr o f true) Q E s₁) E s):wpAny (model prog w) A (eval (.Attribute e f pos) env) Q E s:=
 Attribute_any_ h (by rw[arm_eval_Attribute,hb])
end
section
variable {X:Cx}{o e value:Expr}{f:Str}{pos pos' tpos:Pos}{ta tv:TE}
end
section
variable {X:Cx}{Y:JV}{U:St}{H:Hp}{s:Shared}{A:Around}{E:JU}{Q:JU}{c:Value}{b:Bool}
inductive gg (K:W.Frag) (H:Hp):V->Value->Prop where
 |non:gg K H .non (.type "NoneType")
 |bl (x:Bool):gg K H (.bl x) (.type "bool")
 |int (i:Int):gg K H (.int i) (.type "int")
 |str (x:Str):gg K H (.str x) (.type "str")
 |flt (x:UInt64):gg K H (.flt x) (.type "float")
 |lst {a:Addr}{xs:List V}(e:H a=some (.lst xs)):gg K H (.ref a) (.type "list")
 |ji {a:Addr}{o:Obj}{xs:List V}(e:H a=some (.ji o (.lst xs))):gg K H (.ref a) (.type "list")
 |tup {a:Addr}{xs:List V}(e:H a=some (.tup xs)):gg K H (.ref a) (.type "tuple")
 |dK {a:Addr}{kvs:List (Key×V)}(e:Rd H a (.dK kvs)):gg K H (.ref a) (.type "dict")
 |dT {a:Addr}{kvs:List (List Key×V)}(e:H a=some (.dT kvs)):gg K H (.ref a) (.type "dict")
 |ins {a C dx:Addr}{fs:List (Str×V)}(e:H a=some (.ins C dx fs)) (cl:Ar K C) (ha:W.findIn K (.ref C) "__class__"=some (some (.builtin "object.__class__")))
   (hn:W.specialIn K (.builtin "object.__class__") "__get__"=some (some (.builtin "getset_descriptor.__get__"))) (htk:W.takesIn K (.builtin "object.__class__")=some true)
   (hm:W.mroIn K C (.type "object")=some true):gg K H (.ref a) (.ref C)
def gU {x:V}{t:Value}(I:Inv X Y U H s)(rx:RelV x u)(ty:gg X.K H x t)(e:W.kitOne X.K t c=some b)(h:∀ tk,Q (.bool b) { s with toks:=tk }):
  wpAny (model X.prog X.w) A (call (.builtin "isinstance") [u,c]) Q E s:=by
 cases ty with
 |non=>cases(show u=Value.none from rx);exact W.kia_one W.kitx_none I.bw True.intro e (λz=>nomatch z) h
 |bl y=>cases(show u=Value.bool y from rx);exact W.kia_one W.kitx_bool I.bw True.intro e (λz=>nomatch z) h
 |int i=>obtain⟨t,q⟩:=(show ∃ t,u=Value.int i t from rx);cases q;exact W.kia_one W.kitx_int I.bw True.intro e (λz=>nomatch z) h
 |str y=>obtain⟨t,q⟩:=(show ∃ t,u=Value.str y t from rx);cases q;exact W.kia_one W.kitx_str I.bw True.intro e (λz=>nomatch z) h
 |flt y=>obtain⟨t,q⟩:=(show ∃ t,u=Value.float y t from rx);cases q;exact W.kia_one W.kitx_float I.bw True.intro e (λz=>nomatch z) h
 | @lst a xs ea=>
  cases(show u=Value.ref a from rx);obtain⟨_,_,n,_,h1⟩:=(show ax X.prog X.w H s.heap a (.lst xs) from I.hok a _ ea);exact W.kia_one W.kitx_list I.bw ⟨_,h1,rfl⟩ e (λz=>nomatch z) h
 | @ji a ob xs ea=>
  cases(show u=Value.ref a from rx);obtain⟨_,_,_,n,_,h1⟩:=(show ax X.prog X.w H s.heap a (.ji ob (.lst xs)) from I.hok a _ ea);exact W.kia_one W.kitx_list I.bw ⟨_,h1,rfl⟩ e (λz=>nomatch z) h
 | @tup a xs ea=>
  cases(show u=Value.ref a from rx);obtain⟨_,_,_,p⟩:=(show ax X.prog X.w H s.heap a (.tup xs) from I.hok a _ ea);obtain⟨o,h1,h2,_⟩:=p;exact W.kia_one W.kitx_tuple I.bw ⟨o,h1,h2⟩ e (λz=>nomatch z) h
 | @dK a kvs ea=>
  cases(show u=Value.ref a from rx);obtain⟨_,_,vs,_,p⟩:=(show ax X.prog X.w H s.heap a (.dK kvs) from ea.ok I.hok);obtain⟨o,es,ep,h1,h2,_⟩:=p;exact W.kia_one W.kitx_dict I.bw ⟨o,h1,h2.1⟩ e (λz=>nomatch z) h
 | @dT a kvs ea=>
  cases(show u=Value.ref a from rx);obtain⟨_,_,xs,_,o,es,ep,h1,h2,_⟩:=(show ax X.prog X.w H s.heap a (.dT kvs) from I.hok a _ ea);exact W.kia_one W.kitx_dict I.bw ⟨o,h1,h2.1⟩ e (λz=>nomatch z) h
 | @ins a C dx fs ea cl ha hn htk hm=>
  cases(show u=Value.ref a from rx);obtain⟨mA,O,_⟩:=eh I.hok ea;obtain⟨od,J,_⟩:=O.look;exact W.kia_one (W.kitx_own (cl.get _) cl.hd ha hn htk hm) I.bw J e (λz=>nomatch z) h
end
structure bp (k:Nat) (A:Around):Prop where
 hd:A.handled=none
 dp:A.depth+3*k+5<recursionLimit
 un:A.units+16*k+200<cLine
def bp.mono {j:Nat}(r:bp k A)(h:j<=k):bp j A:=⟨r.hd,by have:=r.dp;omega,by have:=r.un;omega⟩
def bp.deeper (r:bp (k+1) A)(env:Env):bp k (A.deeper env):=
 ⟨r.hd,by have:=r.dp;show A.depth+1+3*k+5<_;omega,by have:=r.un;show A.units+3+16*k+200<_;omega⟩
def qK:(A.under (.builtin "type.__call__" ⟨.ref C::us,kw⟩)).depth=A.depth+1:=by
 first|rfl|simp[Around.under,Code.weight,Code.isCreation,Code.isGuard,Code.isCaller,Code.frames,Code.isFrame,guardIds]
def qw:(A.under (.builtin "type.__call__" ⟨.ref C::us,kw⟩)).units=A.units+1:=by
 first|rfl|simp[Around.under,Code.cUnits,Code.frames,Code.isFrame]
def bp.make (r:bp (k+1) A)(C:Addr)(us:List Value)(kw:List (Str×Value)):bp k (A.under (.builtin "type.__call__" ⟨.ref C::us,kw⟩)):=
 ⟨r.hd,by have:=r.dp;rw[qK];omega,by have:=r.un;rw[qw];omega⟩
def bp.depth (r:bp k A):A.depth<recursionLimit:=by have:=r.dp;omega
abbrev AA:TA:=λ_ H Q=>Q [] H
abbrev Bq (ta:TE)(tr:TA):TA:=λU H Q=>ta U H λx H1=>tr U H1 λxs H2=>Q (x::xs) H2
section
variable {X:Cx}{e:Expr}{es:List Expr}{te:TE}{t:TA}{pos:Pos}
def dH:PA X [] AA:=λ_ _ _ _ H Q I h=>Calls.spliced_nil ⟨[],H,I,.nil,h⟩
def zU (ha:PE X e te)(hr:PA X es t)(hs:bv (e::es) X.env=(false,eval e X.env)::bv es X.env:=by rfl):PA X (e::es) (Bq te t):=by
 intro pos Y s U H Q I h;rw[hs];show wpAny _ _ (spliced ((false,eval e X.env)::backTo pos (bv es X.env))) _ _ s;refine Calls.spliced_cons (aC (ha Y s U H _ I h) λu s1 ⟨x,H1,I1,r1,q1⟩=>?_);exact aC (hr pos Y s1 U H1 _ I1 q1) λus s2 ⟨xs,H2,I2,r2,q2⟩=>⟨x::xs,H2,I2,.cons r1 r2,q2⟩
abbrev Hy (t:TA):TE:=λU H Q=>t U H λxs H1=>xs.length<=ce/\∀ p,H1 p=none->Q (.ref p) (upd H1 p (.tup xs))
abbrev HW (t:TA):TE:=λU H Q=>t U H λxs H1=>xs.length<=ce/\∀ p,H1 p=none->Q (.ref p) (upd H1 p (.lst xs))
def wY {x1} (h:PA X es t):PE X (.Tuple es x1 pos) (Hy t):=by
 intro Y s U H Q I hq;refine wpAny_Tuple_spliced (aC (h pos Y s U H _ I hq) λus s1 ⟨xs,H1,I1,r,z,q⟩=>⟨by rw[<-r.length];exact z,?_⟩);have hf:H1 s1.heap.objs.size=none:=I1.hok.fresh (re _);refine⟨.ref s1.heap.objs.size,upd H1 s1.heap.objs.size (.tup xs),I1.laid (t':=s1.toks) (λb u e=>tz _ e) (re _) ?_,rfl,q _ hf⟩;exact⟨z,us,r,⟨_,ul _ rfl,rfl,_,rfl⟩⟩
def CM (h:PA X es t):PE X (.List es pos) (HW t):=by
 intro Y s U H Q I hq;refine wpAny_List_spliced (aC (h pos Y s U H _ I hq) λus s1 ⟨xs,H1,I1,r,z,q⟩=>⟨by rw[<-r.length];exact z,?_⟩);have hf:H1 s1.heap.objs.size=none:=I1.hok.fresh (re _);refine⟨.ref s1.heap.objs.size,upd H1 s1.heap.objs.size (.lst xs),I1.laid (t':=s1.toks) (λb u e=>tz _ e) (re _) ?_,rfl,q _ hf⟩;exact⟨z,us,0,r,ul _ rfl⟩
end
@[reducible]def Sp:=List V->Hp->VK->XK->Prop
@[reducible]def su:=List Env->Hp->Shared->XK->Value->Shared->Prop
structure qM (P:Program) (w:World) (K:W.Frag) (mg:JW) (base:Heap) (A:Around) (outer:List Env) (s:Shared) (H:Hp):Prop where
 frames:A.frames=some outer
 mod:Mod K mg base
 bs:∀ b o,base.get? b=some o->s.heap.get? b=some o/\H b=none
 bsz:base.objs.size<=s.heap.objs.size
 hR:s.heap.FunFrames base outer
 frf:∀ b ∈ mi outer,H b=none
 hok:fq P w H s.heap
 bare:AllBare s.gens
abbrev CE (outer:List Env)(P:Program)(w:World)(H:Hp)(s:Shared)(Q:VK)(u:Value)(s':Shared):Prop:=
 ∃ v H',s'.os=s.os/\AllBare s'.gens/\Un (mi outer) [] H H' s.heap s'.heap/\fq P w H' s'.heap/\RelV v u/\Q v H'
abbrev CR (CX:su)(outer:List Env)(P:Program)(w:World)(H:Hp)(s:Shared)(Q:VK)(E:XK)(r:Result)(s':Shared):Prop:=
 match r with
 | .ok (.ret u)=>CE outer P w H s Q u s'
 | .ok _=>False
 | .error e=>CX outer H s E e s'
structure cT (P:Program) (w:World) (K:W.Frag) (mg:JW) (base:Heap) (CX:su) (k:Nat) (f:Addr) (fd:FuncData) (ps:List Str) (sp:Sp):Prop where
 len:∀ vs H Q E,sp vs H Q E->vs.length=ps.length
 run:∀ (A:Around) (outer:List Env) (s:Shared) (H:Hp) (args:Args) (us:List Value) (vs:List V) (Q:VK) (E:XK),bp k A->qM P w K mg base A outer s H->BindsTo s fd args (ps.zip us)->Vals vs us->sp vs H Q E->
  codeAny (model P w) A (.call (.ref f) args) (CR CX outer P w H s Q E) s
variable {mg:JW}{base:Heap}{CX:su}{fd:FuncData}{ps:List Str}
def cT.imp {f:Addr}{sp sp':Sp}(F:cT P w K mg base CX k f fd ps sp)
  (h:∀ vs H Q E,sp' vs H Q E->sp vs H Q E):cT P w K mg base CX k f fd ps sp':=
 ⟨λvs H Q E q=>F.len vs H Q E (h _ _ _ _ q),λA outer s H args us vs Q E hr he hb hv hs=>F.run A outer s H args us vs Q E hr he hb hv (h _ _ _ _ hs)⟩
variable {outer:List Env}
def qM.make (e:qM P w K mg base A outer s H)(C:Addr)(us:List Value)(kw:List (Str×Value)):
  qM P w K mg base (A.under (.builtin "type.__call__" ⟨.ref C::us,kw⟩)) outer s H:=⟨by first|exact e.frames|(simpa[Around.under,Code.envs,Code.isFrame,pushEnvs] using e.frames),e.mod,e.bs,e.bsz,e.hR,e.frf,e.hok,e.bare⟩
section
variable {X:Cx}{Y:JV}{U:St}{H:Hp}{s s':Shared}
def Inv.iq (I:Inv X Y U H s):qM X.prog X.w X.K X.mg X.base X.A X.stack s H:=
 ⟨I.ok.frames,I.ok.mod,I.bs,Nat.le_trans I.ok.bsz I.sz,I.stack,I.mY,I.hok,I.bare⟩
def Inv.after {Q:VK}(I:Inv X Y U H s)(h:CE X.stack X.prog X.w H s Q u s'):EP X Y U Q u s':=by
 obtain⟨v,H',os,bare,un,hok,r,q⟩:=h;obtain⟨hh,g,d,t,os'⟩:=s';obtain rfl:os'=s.os:=os;exact⟨v,H',I.call (h':=hh) (g':=g) (d':=d) (t':=t) (ch:=[]) un hok bare (λb z=>absurd z (by simp)),r,q⟩
end
abbrev B5 (sp:Sp)(dvs:List V)(E:St->XK)(t:TA):TE:=λU H Q=>t U H λvs H1=>sp (vs++dvs) H1 Q (E U)
abbrev BL (C:Addr)(sp:Sp)(dvs:List V)(E:St->XK)(t:TA):TE:=λU H Q=>t U H λvs H1=>∀ x dx,H1 x=none->H1 dx=none->dx≠x->
 sp (.ref x::(vs++dvs)) (upd (upd H1 dx (.own x)) x (.ins C dx [])) (λv H2=>v=.non/\Q (.ref x) H2) (E U)
abbrev Binds (K:W.Frag)(fd:FuncData)(ps:List Str)(ds:List Value):Prop:=
 ∀ (s:Shared) (us:List Value),K.In s.heap->(us++ds).length=ps.length->BindsTo s fd ⟨us,[]⟩ (ps.zip (us++ds))
def Binds.all (h:∀ us:List Value,us.length=ps.length->bindArgs fd ⟨us,[]⟩=pure (ps.zip us)):Binds K fd ps []:=λs us _ hl=>by
 rw[append_nil]at hl⊢;exact .of_eq (h us hl)
abbrev Passes (CX:su)(X:Cx)(E:St->XK):Prop:=∀ (Y:JV) (U:St) (H:Hp) (s:Shared) (e:Value) (s':Shared),Inv X Y U H s->CX X.stack H s (E U) e s'->X.xe e s'
variable {vs:List V}
section
variable {X:Cx}{CX:su}{k:Nat}{f C:Addr}{fd:FuncData}{ps:List Str}{sp:Sp}{dvs:List V}{ds:List Value}{E:St->XK}{x m:Str}{p pos apos:Pos}{e o:Expr}{es:List Expr}{ta:TE}{t:TA}
def mr {Q:VK}(F:cT X.prog X.w X.K X.mg X.base CX k f fd ps sp)(hr:bp k X.A)(hb:Binds X.K fd ps ds)(hd:Vals dvs ds)(hx:Passes CX X E)
  (I:Inv X Y U H s) (r:Vals vs us) (h:sp (vs++dvs) H Q (E U)):wpAny (model X.prog X.w) X.A (call (.ref f) us) (EP X Y U Q) X.xe s:=by
 have r2:Vals (vs++dvs) (us++ds):=r.append hd;have hl:(us++ds).length=ps.length:=by rw[<-r2.length];exact F.len _ _ _ _ h
 refine wpAny_call (codeAny_mono (F.run X.A X.stack s H ⟨us,[]⟩ (us++ds) (vs++dvs) Q (E U) hr I.iq (hb s us I.bw hl) r2 h) λr s' hq=>?_);cases r with
 |error e=>exact hx Y U H s e s' I hq
 |ok fl=>
  cases fl with
  |ret u=>exact I.after hq
  |next=>exact False.elim hq
  |brk=>exact False.elim hq
  |cont=>exact False.elim hq
def zk (F:cT X.prog X.w X.K X.mg X.base CX k f fd ps sp)(hr:bp k X.A)(hg:Gl X x)(hm:X.mg x=some (.ref f))(hk:W.keepIn X.K (.ref f)=true)(hb:Binds X.K fd ps ds)(hd:Vals dvs ds)(hx:Passes CX X E)
  (ha:PA X (e::es) t) (hdb:(x ==("__debug__":Str))=false:=by decide) (he:bv (e::es) X.env=(false,eval e X.env)::bv es X.env:=by rfl) (hpl:(backTo pos (bv es X.env)).any (·.1)=false:=by rfl):
  PE X (.Call (.Name x p) (e::es) [] pos) (B5 sp dvs E t):=by
 intro Y s U H Q I h;refine ci (ba I hg hm ?_ hdb);refine W.callWith_K (h₀:=X.base) I.ok.mod.kin hk (aC (ha pos Y s U H _ I h) λus s1 ⟨vs,H1,I1,r,q⟩=>⟨I1.bw,?_⟩) he hpl;exact mr F hr hb hd hx I1 r q
def wq (F:cT X.prog X.w X.K X.mg X.base CX k f fd ps sp)(hr:bp k X.A)(hg:Gl X x)(hm:X.mg x=some (.ref f))(hk:W.keepIn X.K (.ref f)=true)(hb:Binds X.K fd ps ds)(hd:Vals dvs ds)(hx:Passes CX X E)
  (hdb:(x ==("__debug__":Str))=false:=by decide):PE X (.Call (.Name x p) [] [] pos) (B5 sp dvs E AA):=by
 intro Y s U H Q I h;refine ci (ba I hg hm ?_ hdb);exact W.callWith_K0 I.bw hk (mr (us:=[]) F hr hb hd hx I .nil h)
structure Mk (K:W.Frag) (C f:Addr):Prop where
 makes:W.makesIn K C=true
 init:W.findIn K (.ref C) "__init__"=some (some (.ref f))
 fn:W.isFn K (.ref f)=true
 kp:W.keepIn K (.ref C)=true
def oH {Q:VK}(M:Mk X.K C f)(F:cT X.prog X.w X.K X.mg X.base CX k f fd ps sp)(hr:bp (k+1) X.A)(hb:Binds X.K fd ps ds)(hd:Vals dvs ds)
  (hx:Passes CX X E) (I:Inv X Y U H s) (r:Vals vs us)
  (h:∀ x dx,H x=none->H dx=none->dx≠x->sp (.ref x::(vs++dvs)) (upd (upd H dx (.own x)) x (.ins C dx [])) (λv H2=>v=.non/\Q (.ref x) H2) (E U)):
  wpAny (model X.prog X.w) X.A (call (.ref C) us) (EP X Y U Q) X.xe s:=by
 have hq:=h (s.heap.objs.size+1) s.heap.objs.size (I.hok.fresh (Nat.le_succ _)) (I.hok.fresh (re _)) (pi (Nat.lt_succ_self _));have I2:=Inv.made (C:=C) I;have r2:Vals (V.ref (s.heap.objs.size+1)::(vs++dvs)) (Value.ref (s.heap.objs.size+1)::(us++ds)):=.cons rfl (r.append hd);have hl:(Value.ref (s.heap.objs.size+1)::us++ds).length=ps.length:=by
  have e:=r2.length;rw[F.len _ _ _ _ hq]at e;exact e.symm
 refine wpAny_call (wF (f:=f) I.bw M.makes M.init (beq_iff_eq.mp M.fn) (codeAny_mono (F.run _ X.stack _ _ ⟨Value.ref (s.heap.objs.size+1)::us,[]⟩ (Value.ref (s.heap.objs.size+1)::(us++ds)) _ _ (E U) (hr.make C us [])
  (I2.iq.make C us []) (hb _ (Value.ref (s.heap.objs.size+1)::us) I2.bw hl) r2 hq) λr s' hq'=>?_))
 cases r with
 |error e=>exact hx Y U _ _ e s' I2 hq'
 |ok fl=>
  cases fl with
  |ret u=>
   obtain⟨v,H',I3,rv,ev,q3⟩:=I2.after hq';subst ev;exact⟨rv,⟨V.ref (s.heap.objs.size+1),H',I3,rfl,q3⟩⟩
  |next=>exact False.elim hq'
  |brk=>exact False.elim hq'
  |cont=>exact False.elim hq'
def yN (M:Mk X.K C f)(F:cT X.prog X.w X.K X.mg X.base CX k f fd ps sp)(hr:bp (k+1) X.A)(hg:Gl X x)(hm:X.mg x=some (.ref C))(hb:Binds X.K fd ps ds)(hd:Vals dvs ds)(hx:Passes CX X E)
  (ha:PA X (e::es) t) (hdb:(x ==("__debug__":Str))=false:=by decide) (he:bv (e::es) X.env=(false,eval e X.env)::bv es X.env:=by rfl) (hpl:(backTo pos (bv es X.env)).any (·.1)=false:=by rfl):
  PE X (.Call (.Name x p) (e::es) [] pos) (BL C sp dvs E t):=by
 intro Y s U H Q I h;refine ci (ba I hg hm ?_ hdb);refine W.callWith_K (h₀:=X.base) I.ok.mod.kin M.kp (aC (ha pos Y s U H _ I h) λus s1 ⟨vs,H1,I1,r,q⟩=>⟨I1.bw,?_⟩) he hpl;exact oH M F hr hb hd hx I1 r q
def xE (M:Mk X.K C f)(F:cT X.prog X.w X.K X.mg X.base CX k f fd ps sp)(hr:bp (k+1) X.A)(hg:Gl X x)(hm:X.mg x=some (.ref C))(hb:Binds X.K fd ps ds)(hd:Vals dvs ds)(hx:Passes CX X E)
  (hdb:(x ==("__debug__":Str))=false:=by decide):PE X (.Call (.Name x p) [] [] pos) (BL C sp dvs E AA):=by
 intro Y s U H Q I h;refine ci (ba I hg hm ?_ hdb);exact W.callWith_K0 I.bw M.kp (oH (us:=[]) M F hr hb hd hx I .nil h)
end
section
variable {X:Cx}{CX:su}{k:Nat}{f C:Addr}{fd:FuncData}{ps ks:List Str}{sp:Sp}{E:St->XK}{x m:Str}{p pos apos kpos:Pos}{e o:Expr}{es:List Expr}{kws:List Keyword}{te ta:TE}{t tk:TA}{nm:Option Str}
variable {g:List Value->List Value->List Value}{gV:List V->List V->List V}
end
structure jc (N P:List Str) (sc:Scope):Prop where
 kind:sc.kind=.function
 co:sc.isCoroutine=false
 gen:sc.isGenerator=false
 nd:N.Nodup
 pre:N.take P.length=P
 par:∀ x ∈ P,sc.names.lookup x=some .local\/sc.names.lookup x=some .cell
 nofree:∀ y ∈ sc.names,y.2≠.free
def lp {kindOf:Str->Option NameKind}{x:Str}:∀ {binds:List (Str×Value)}{m:JW},(∀ v,(x,v) ∉ binds)->bindL kindOf binds m x=m x
 | [],_,_=>rfl
 |(n,v)::r,m,h=>by
  unfold bindL;rw[lp λw hw=>h w (f8 _ hw)]
  split
  .have:x≠n:=by rintro rfl;exact h v lv
   simp[this]
  .rfl
def kI {kindOf:Str->Option NameKind}{x:Str}:∀ {binds:List (Str×Value)}{m:JW},(∀ v,(x,v) ∉ binds)->bindC kindOf binds m x=m x
 | [],_,_=>rfl
 |(n,v)::r,m,h=>by
  unfold bindC;rw[kI λw hw=>h w (f8 _ hw)]
  split
  .rfl
  .have:x≠n:=by rintro rfl;exact h v lv
   simp[this]
def la {kindOf:Str->Option NameKind}{x:Str}{v:Value}:∀ {P:List Str}{vs:List Value}{i:Nat}{m:JW},P.Nodup->P[i]? =some x->vs[i]? =some v->kindOf x=some .local->
  bindL kindOf (P.zip vs) m x=some v
 | [],_,_,_,_,h,_,_=>by simp at h
 |_::_,[],_,_,_,_,h,_=>by simp at h
 |p::P,w::vs,0,m,nd,h1,h2,hk=>by
  simp at h1 h2;subst h1;subst h2;show bindL kindOf ((p,w)::P.zip vs) m p=_;unfold bindL;rw[lp λv hv=>(nodup_cons.mp nd).1 (of_mem_zip hv).1,if_pos hk];simp
 |p::P,w::vs,i+1,m,nd,h1,h2,hk=>by
  show bindL kindOf ((p,w)::P.zip vs) m x=_;unfold bindL;exact la (i:=i) (nodup_cons.mp nd).2 (by simpa using h1) (by simpa using h2) hk
def kZ {kindOf:Str->Option NameKind}{x:Str}{v:Value}:∀ {P:List Str}{vs:List Value}{i:Nat}{m:JW},P.Nodup->P[i]? =some x->vs[i]? =some v->kindOf x≠some .local->
  bindC kindOf (P.zip vs) m x=some v
 | [],_,_,_,_,h,_,_=>by simp at h
 |_::_,[],_,_,_,_,h,_=>by simp at h
 |p::P,w::vs,0,m,nd,h1,h2,hk=>by
  simp at h1 h2;subst h1;subst h2;show bindC kindOf ((p,w)::P.zip vs) m p=_;unfold bindC;rw[kI λv hv=>(nodup_cons.mp nd).1 (of_mem_zip hv).1,if_neg hk];simp
 |p::P,w::vs,i+1,m,nd,h1,h2,hk=>by
  show bindC kindOf ((p,w)::P.zip vs) m x=_;unfold bindC;exact kZ (i:=i) (nodup_cons.mp nd).2 (by simpa using h1) (by simpa using h2) hk
abbrev start (N:List Str)(vs:List V):St:=vs.map some++sw (N.length-vs.length) none
abbrev tW (CX:su)(P:Program)(w:World)(K:W.Frag)(mg:JW)(base:Heap)(N:List Str)(qual:Str)(scope:Scope)(f:Addr)(cd:Value)(A:Around)(outer:List Env)(s:Shared)(H:Hp)(E:XK):Cx where
 prog:=P
 w:=w
 K:=K
 mg:=mg
 base:=base
 A:=A.deeper (envOfC qual scope s.heap.objs.size f cd)
 N:=N
 s₀:=s
 H₀:=H
 env:=envOfC qual scope s.heap.objs.size f cd
 outer:=outer
 stack:=envOfC qual scope s.heap.objs.size f cd::outer
 ex:=[]
 calm:=true
 fn:=λ_=>true
 pn:=[]
 xe:=λe s'=>wpAny (model P w) (A.deeper (envOfC qual scope s.heap.objs.size f cd)) (leaving (envOfC qual scope s.heap.objs.size f cd) e) (λ_ s''=>CX outer H s E e s'') (λe' s''=>CX outer H s E e' s'') s'
def nK {sc:Scope}{n:Nat}(h:sc.names.lookup x=some .cell):∃ c,(cellsFrom n sc.names []).lookup x=some c:=by
 have q:=W.cellsFrom_some sc.names n [] (.inl h);exact Option.isSome_iff_exists.mp q
variable {scope:Scope}
def ux {N:List Str}{qual:Str}{f:Addr}{cd:Value}{s1:Shared}{E:XK}
  (S:jc N ps scope) (hd:A.handled=none) (e0:qM P w K mg base A outer s H) (hl:vs.length=ps.length) (r:Vals vs us)
  (x:InCallC s s.heap.objs.size (bindL (envOfC qual scope s.heap.objs.size f cd).kindOf (ps.zip us) λ_=>none) (cellsFrom (s.heap.objs.size+1) scope.names []) (bindC (envOfC qual scope s.heap.objs.size f cd).kindOf (ps.zip us) λ_=>none) s1):
  Inv (tW CX P w K mg base N qual scope f cd A outer s H E) [] (start N vs) H s1:=by
 have hpl:ps.length<=N.length:=by have:=congrArg List.length S.pre;rw[dL]at this;omega
 obtain⟨h1,tk,rfl,hk⟩:=x.done;have noA:∀ b:Addr,b ∉ (tW CX P w K mg base N qual scope f cd A outer s H E).ex:=λb z=>absurd (show b ∈ ([]:List Addr) from z) (by simp)
 refine⟨⟨e0.mod,S.kind,rfl,rfl,re _,λy z c h1 h2=>?_,λy hy=>?_,λy c _ h=>?_,λ_=>hd,Around.frames_deeper e0.frames,.inr ⟨rfl,rfl⟩,λb z=>absurd z (noA b),e0.bs,e0.bsz,λb _ _=>noA b,λb z=>absurd z (noA b),e0.hR,e0.frf⟩,
  rfl,e0.bare,Un.kept hk,⟨_,x.toInCall.ns,λi y v h1 h2 h3=>?_⟩,λy c h=>⟨_,x.cell y c h⟩,e0.hok.fresh (re _),λy c h=>?_,λp hp=>absurd (show p ∈ ([]:JV) from hp) (by simp),e0.hok.kept hk,?_⟩
 .exact name_of_addr x.apart (PySem.mem_of_lookup h1) (PySem.mem_of_lookup h2)
 .have hy:scope.names.lookup y=some .cell\/scope.names.lookup y=some .free:=hy;rcases hy with hy|hy
  .exact nK hy
  .exact absurd rfl (S.nofree _ (PySem.mem_of_lookup hy))
 .exact Nat.le_of_lt (x.above y c (PySem.mem_of_lookup h))
 .have hi:i<vs.length:=by
   unfold start at h2
   by_cases hi:i<vs.length
   .exact hi
   .rw[getElem?_append_right (by simpa using hi)]at h2;rw[List.getElem?_replicate]at h2
    split at h2<;>cases h2
  have ha:vs[i]? =some v:=by
   unfold start at h2;rw[getElem?_append_left (by simpa using hi),jp]at h2;cases e:vs[i]? with
   |none=>rw[e]at h2;cases h2
   |some a=>rw[e]at h2;cases h2;rfl
  obtain⟨u,hu,rv⟩:=r.get ha;have hp:ps[i]? =some y:=by
   rw[<-S.pre,List.getElem?_take_of_lt nofun];exact h1
  have ndP:ps.Nodup:=by rw[<-S.pre];exact S.nd.sublist (take_sublist _ _)
  refine⟨u,rv,?_⟩;rcases S.par y (dl hp) with k|k
  .exact .inl ⟨k,la ndP hp hu k⟩
  .obtain⟨c,e⟩:=nK (n:=s.heap.objs.size+1) k;refine .inr ⟨.inl k,c,e,?_⟩;have q:=x.cell y c e;rw[kZ ndP hp hu (by show scope.names.lookup y≠_;rw[k];decide)]at q;exact q
 .exact e0.hok.fresh (Nat.le_of_lt (x.above y c (PySem.mem_of_lookup h)))
 .unfold start;show _=N.length;rw[db,cr,List.length_replicate]
  omega
def GZ {f:Addr}{name qual:Str}{params:Arguments}{dV kV doc pm cdv ct oc:Value}{an od:Option Addr}
  {osl:Array (Option Value)}{N:List Str}{sp:Sp}(lk:K.lookup f=some ⟨oc,od,.func (W.fnOf name qual params body scope dV kV doc pm an cdv ct),osl⟩) (hcd:W.codeIn K cdv qual=true) (S:jc N ps scope)
  (len:∀ vs H Q E,sp vs H Q E->vs.length=ps.length)
  (hbody:∀ (A:Around) (outer:List Env) (s:Shared) (H:Hp) (vs:List V) (Q:VK) (E:XK),bp k (A.deeper (envOfC qual scope s.heap.objs.size f cdv))->sp vs H Q E->
   ∃ t,yK (tW CX P w K mg base N qual scope f cdv A outer s H E) body t/\t { nx:=λ_ H'=>Q .non H',rt:=Q } (start N vs) H):
  cT P w K mg base CX (k+1) f (W.fnOf name qual params body scope dV kV doc pm an cdv ct) ps sp:=by
 refine⟨len,λA outer s H args us vs Q E hr e0 hb r hsp=>?_⟩;have hl:=len _ _ _ _ hsp;have KX:K.In s.heap:=e0.mod.kin.keeps λb o e=>(e0.bs b o e).1
 have lim:s.heap.NoLimit:=e0.mod.nolimit.keeps λb o e=>(e0.bs b o e).1
 have hkind:∀ y ∈ ps.zip us,scope.names.lookup y.1=some .local\/(scope.names.lookup y.1=some .cell/\((cellsFrom (s.heap.objs.size+1) scope.names []).lookup y.1).isSome=true):=λ⟨n,v⟩ hy=>by
  rcases S.par n (of_mem_zip hy).1 with q|q
  .exact .inl q
  .exact .inr ⟨q,W.cellsFrom_some _ _ _ (.inl q)⟩
 refine codeAny_call_function hr.depth (KX _ _ lk) rfl S.co S.gen rfl (W.codeRec_of KX hcd) (hb _ _ _ _ ?_);refine wpAny_newFunctionEnv_cells S.kind hkind λenv he s1 x=>?_
 subst he;refine⟨lim.keeps x.toInCall.keep,codeAny_func ?_⟩;obtain⟨t,ht,hq⟩:=hbody A outer s H vs Q E (hr.deeper _) hsp;have I:Inv (tW CX P w K mg base N qual scope f cdv A outer s H E) [] (start N vs) H s1:=ux S hr.hd e0 hl r x;refine wpAny_mono (ht [] s1 (start N vs) H _ I hq) (λfl s' hs=>?_) λe s' hs=>hs
 have fin:∀ {σ':St}{H':Hp}{v:V}{u:Value},Inv (tW CX P w K mg base N qual scope f cdv A outer s H E) [] σ' H' s'->RelV v u->Q v H'->CE outer P w H s Q u s':=
  λ{σ' H' v u} J rv q=>⟨v,H',J.os,J.bare,J.base,J.hok,rv,q⟩
 cases fl with
 |ret u=>
  obtain⟨v,σ',H',J,rv,q⟩:=hs;exact fin J rv q
 |next=>
  obtain⟨σ',H',J,q⟩:=hs;exact fin (v:=V.non) (u:=Value.none) J rfl q
 |brk=>
  obtain⟨_,_,_,q⟩:=hs;exact False.elim q
 |cont=>
  obtain⟨_,_,_,q⟩:=hs;exact False.elim q
section
variable {X:Cx}{x:Str}{p pos:Pos}{e:Expr}{es:List Expr}{t:TA}{id T:String}{r:List V->Hp->VK->Prop}
abbrev Jn (r:List V->Hp->VK->Prop)(t:TA):TE:=λU H Q=>t U H λvs H1=>r vs H1 Q
def j0 (hc:cg X (.builtin id) r)(hg:Gl X x)(hm:X.mg x=none)(hv:bootBuiltins x=some (.builtin id))(ha:PA X (e::es) t)(hn:x≠"__name__":=by decide) (hdb:(x ==("__debug__":Str))=false:=by decide)
  (he:bv (e::es) X.env=(false,eval e X.env)::bv es X.env:=by rfl) (hpl:(backTo pos (bv es X.env)).any (·.1)=false:=by rfl):PE X (.Call (.Name x p) (e::es) [] pos) (Jn r t):=by
 intro Y s U H Q I h;refine ci (jD I hg hm hv ?_ hn hdb);exact PyProof.Rows.callWith_builtin1 (aC (ha pos Y s U H _ I h) λus s1 ⟨vs,H1,I1,r1,q1⟩=>hc Y s1 U H1 vs us Q I1 r1 q1) he hpl
def tJ (hc:cg X (.type T) r)(hg:Gl X x)(hm:X.mg x=none)(hv:bootBuiltins x=some (.type T))(ha:PA X (e::es) t)(hn:x≠"__name__":=by decide) (hdb:(x ==("__debug__":Str))=false:=by decide)
  (he:bv (e::es) X.env=(false,eval e X.env)::bv es X.env:=by rfl) (hpl:(backTo pos (bv es X.env)).any (·.1)=false:=by rfl):PE X (.Call (.Name x p) (e::es) [] pos) (Jn r t):=by
 intro Y s U H Q I h;refine ci (jD I hg hm hv ?_ hn hdb);exact PyProof.Rows.callWith_type1 (aC (ha pos Y s U H _ I h) λus s1 ⟨vs,H1,I1,r1,q1⟩=>hc Y s1 U H1 vs us Q I1 r1 q1) he hpl
end
end L2
namespace HT
open PySem PyProof.Rows
section
open PySem.SeqAt
open PySem.AutoSeq1 (wpAny_loadPart')
open PySem.MeetsSeq PySem.MeetsSeq2 PySem.MeetsSeq3
end
section
variable {prog:Program}{w:World}{A:Around}{E:JU}{s:Shared}
abbrev aO (n d:Nat):Option Int->Nat
 |none=>d
 |some v=>if v<0 then(v+(n:Int)).toNat else min v.toNat n
def xV (n d:Nat)(hd:d<=n)(o:Option Int):aO n d o<=n:=by
 cases o with
 |none=>exact hd
 |some v=>
  show(if v<0 then(v+(n:Int)).toNat else min v.toNat n)<=n
  by_cases hv:v<0
  .rw[if_pos hv];omega
  .rw[if_neg hv];exact Nat.min_le_right _ _
def qY (v:Int)(n d:Nat):(if v<0 then max (v+(n:Int)) 0 else min v (n:Int))=((aO n d (some v):Nat):Int):=by
 show(if v<0 then max (v+(n:Int)) 0 else min v (n:Int))=(((if v<0 then(v+(n:Int)).toNat else min v.toNat n):Nat):Int)
 by_cases hv:v<0
 .simp only[if_pos hv];omega
 .simp only[if_neg hv];omega
def pS (lo hi:Option Int)(n:Nat):Builtin.Slice.sliceAdjust lo hi 1 (n:Int)=(((aO n 0 lo:Nat):Int),((aO n n hi:Nat):Int)):=by
 have h1:¬ ((1:Int)<0):=by omega
 unfold Builtin.Slice.sliceAdjust;simp only[h1,if_false];refine Prod.ext ?_ ?_
 .cases lo with
  |none=>rfl
  |some v=>exact qY v n 0
 .cases hi with
  |none=>rfl
  |some v=>exact qY v n n
def qm (i j:Nat):Builtin.Slice.slicePlaces (i:Int) (j:Int) 1=j-i:=by
 unfold Builtin.Slice.slicePlaces;have h1:(1:Int)>0:=by omega
 simp only[h1,if_true,Int.ediv_one]
 split<;>omega
def jE {v:Value}{o:Option Int}{Q:Option Int->Shared->Prop}(p:IsPart v o)(h:Q o s):wpAny (model prog w) A (Builtin.Slice.slicePartIndex v) Q E s:=by
 cases p with
 |none=>exact slicePart_none h
 |int i t=>exact slicePart_int h
def gQ {sl:Addr}{vl vu:Value}{lo hi:Option Int}{n:Nat}{Q:Int×Int×Nat->Shared->Prop}(hs:s.heap.IsSliceOf sl vl vu .none)(pl:IsPart vl lo)(pu:IsPart vu hi)
  (h:Q (((aO n 0 lo:Nat):Int),1,aO n n hi-aO n 0 lo) s):wpAny (model prog w) A (Builtin.Slice.sliceApplied (.ref sl) (pure (n:Int))) Q E s:=by
 obtain⟨os,hos,hcs,hds⟩:=id hs;unfold Builtin.Slice.sliceApplied Builtin.Slice.sliceFields;refine am (am (bd hos hds (x:=vl) rfl (am (bd hos hds (x:=vu) rfl (am (bd hos hds (x:=.none) rfl (ap ?_)))))));refine am (slicePart_none ?_);show wpAny _ _ (if((1:Int) ==0)=true then _ else _) _ _ s;rw[if_neg (by decide)];refine am (jE pl (am (jE pu (am (ap ?_)))));show wpAny _ _ (match Builtin.Slice.sliceAdjust lo hi 1 (n:Int) with|(lo,hi)=>pure (lo,(1:Int),Builtin.Slice.slicePlaces lo hi 1)) _ _ s;rw[pS lo hi n];show wpAny _ _ (pure (((aO n 0 lo:Nat):Int),(1:Int),Builtin.Slice.slicePlaces ((aO n 0 lo:Nat):Int) ((aO n n hi:Nat):Int) 1)) _ _ s;rw[qm];exact ap h
def xU (xs:Array Value)(i k:Nat):((List.range k).filterMap λ(m:Nat)=>xs[((i:Int)+(m:Int)*1).toNat]?).toArray=((xs.toList.drop i).take k).toArray:=by
 have e:(λ(m:Nat)=>xs[((i:Int)+(m:Int)*1).toNat]?)=λm=>xs[i+m]? :=by
  funext m
  have:((i:Int)+(m:Int)*1).toNat=i+m:=by omega
  rw[this]
 rw[e];have:=pick_run xs i k;rw[List.filterMap_map]at this;have e2:((λx=>xs[x]?)∘λx=>i+x)=λm=>xs[i+m]? :=rfl
 rw[e2]at this;rw[this]
def gh {t sl:Addr}{items:Array Value}{vl vu:Value}{lo hi:Option Int}{Q:JU}(ht:IsTup s.heap t items)(hs:s.heap.IsSliceOf sl vl vu .none)(pl:IsPart vl lo)(pu:IsPart vu hi)
  (hw:¬ (aO items.size 0 lo=0/\aO items.size items.size hi=items.size))
  (h:Q (.ref s.heap.objs.size) { s with heap:=s.heap.push { cls:=.type "tuple",data:=.seq ((items.toList.drop (aO items.size 0 lo)).take (aO items.size items.size hi-aO items.size 0 lo)).toArray } })
  (hsz:items.size<=ce):wpAny (model prog w) A (getItem (.ref t) (.ref sl)) Q E s:=by
 have htake:sizeOk (.seq ((items.toList.drop (aO items.size 0 lo)).take (aO items.size items.size hi-aO items.size 0 lo)).toArray):=by
  show((items.toList.drop (aO items.size 0 lo)).take (aO items.size items.size hi-aO items.size 0 lo)).toArray.size<=ce;rw[im,dL,le,Array.length_toList]
  omega
 have hj:aO items.size items.size hi<=items.size:=xV _ _ (re _) hi;obtain⟨os,hos,hcs,hds⟩:=id hs;have hTs:s.TypeIs (.ref sl) "slice":=⟨os,hos,hcs⟩;unfold getItem
 try with_reducible refine bi ?_
 first|refine am (ap ?_)|skip
 refine am (wpAny_sequenceKey ht.typeIs (by decide) ?_);refine am (wpAny_callSpecial?_slot (name:=Str.ofString "__getitem__") ht.typeIs PyProof.Rows.slot_tuple_getitem
  (wpAny_call_entry PyProof.Rows.slot_tuple_getitem ht.typeIs entry_tuple_getitem ?_ (args_tuple_getitem _ _)))
 show wpAny _ _ (Builtin.Tuple.tupleItemsOf (.ref t) >>= _) _ _ s;refine am (tupleItemsOf_ ht ?_);refine am (wpAny_typeOf hTs ?_);rw[if_pos (by decide)];refine am (gQ hs pl pu ?_);have hno:¬ ((((aO items.size 0 lo:Nat):Int) ==0&&(1:Int) ==1&&(aO items.size items.size hi-aO items.size 0 lo) ==items.size)=true):=by
  intro q;rw[mo,mo]at q;have q1:((aO items.size 0 lo:Nat):Int)=0:=eq_of_beq q.1.1;have q2:aO items.size items.size hi-aO items.size 0 lo=items.size:=eq_of_beq q.2;exact hw ⟨by omega,by omega⟩
 show wpAny _ _ (if(((aO items.size 0 lo:Nat):Int) ==0&&(1:Int) ==1&&(aO items.size items.size hi-aO items.size 0 lo) ==items.size)=true then _ else _) _ _ s;rw[if_neg hno,xU]
 first
  |exact am (m:=Builtin.Tuple.tupleExact _) (wpAny_newObj_type (ap ⟨_,rfl,ap h⟩) htake)
  |exact am (m:=Builtin.Tuple.tupleExact _) (wpAny_newObj_type (am (ap (ap ⟨_,rfl,ap h⟩))) htake)
  |exact am (am (m:=Builtin.Tuple.tupleExact _) (wpAny_newObj_type (ap (ap ⟨_,rfl,ap h⟩)) htake))
  |exact am (am (m:=Builtin.Tuple.tupleExact _) (wpAny_newObj_type (ap ⟨_,rfl,ap h⟩) htake))
end
end HT
namespace L2
open PySem PySem.Spec PyProof.Rows
@[reducible]def TO:=St->Hp->(Option Int->Hp->Prop)->Prop
abbrev PO (X:Cx)(e:Option Expr)(t:TO):Prop:=
 ∀ (Y:JV) (s:Shared) (U:St) (H:Hp) (Q:Option Int->Hp->Prop),Inv X Y U H s->t U H Q->
  wpAny (model X.prog X.w) X.A (evalPart e X.env) (λu s'=>∃ o H',Inv X Y U H' s'/\IsPart u o/\Q o H') X.xe s
abbrev zJ:TO:=λ_ H Q=>Q none H
abbrev GA (t:TE):TO:=λU H Q=>t U H λx H1=>∃ i,x=.int i/\Q (some i) H1
section
variable {X:Cx}{e:Expr}{te:TE}{lo hi:Option Expr}{tl th:TO}{pos p2:Pos}
def A7:PO X none zJ:=by
 intro Y s U H Q I h;rw[evalPart_none];exact ap ⟨none,H,I,.none,h⟩
def zq (h:PE X e te):PO X (some e) (GA te):=by
 intro Y s U H Q I hw;rw[evalPart_some];refine aC (h Y s U H _ I hw) λu s1 ⟨x,H1,I1,r1,q1⟩=>?_
 obtain⟨i,rfl,q⟩:=q1;obtain⟨t,rfl⟩:=r1;exact⟨some i,H1,I1,.int i t,q⟩
abbrev EO (X:Cx)(r:V->Option Int->Option Int->Hp->VK->Prop):Prop:=
 ∀ (Y:JV) (s:Shared) (U:St) (H:Hp) (x:V) (v vl vu:Value) (lo hi:Option Int) (sl:Addr) (Q:VK),Inv X Y U H s->RelV x v->s.heap.IsSliceOf sl vl vu .none->IsPart vl lo->IsPart vu hi->r x lo hi H Q->
  ∃ T id,typeLookup (.type T) "__getitem__"=pure (some (.builtin id))/\s.TypeIs v T/\wpAny (model X.prog X.w) X.A (getItem v (.ref sl)) (EP X Y U Q) X.xe s
abbrev JQ (r:V->Option Int->Option Int->Hp->VK->Prop)(te:TE)(tl th:TO):TE:=λU H Q=>te U H λx H1=>tl U H1 λl H2=>th U H2 λu H3=>r x l u H3 Q
def xR {r:V->Option Int->Option Int->Hp->VK->Prop}(hr:EO X r)(he:PE X e te)(hl:PO X lo tl)(hu:PO X hi th):PE X (.Subscript e (.Slice lo hi none p2) pos) (JQ r te tl th):=by
 intro Y s U H Q I h;refine Subscript_ (aC (he Y s U H _ I h) λv s1 ⟨x,H1,I1,r1,q1⟩=>?_);refine wpAny_Slice (aC (hl Y s1 U H1 _ I1 q1) λvl s2 ⟨l,H2,I2,pl,q2⟩=>aC (hu Y s2 U H2 _ I2 q2) λvu s3 ⟨u,H3,I3,pu,q3⟩=>?_);rw[evalPart_none];refine ap ?_;have I4:Inv X Y U H3 { s3 with heap:=s3.heap.push { cls:=.type "slice",data:=.fields #[vl,vu,.none] } }:=I3.kept (t':=s3.toks) λb ob q=>tz _ q
 obtain⟨T,id,hT,ht,hg⟩:=hr Y { s3 with heap:=s3.heap.push { cls:=.type "slice",data:=.fields #[vl,vu,.none] } } U H3 x v vl vu l u s3.heap.objs.size Q I4 r1 (Heap.IsSliceOf.new ..) pl pu q3;show wpAny (model X.prog X.w) X.A (subscriptTail e (.Slice lo hi none p2) v (.ref s3.heap.objs.size)) (EP X Y U Q) X.xe { s3 with heap:=s3.heap.push { cls:=.type "slice",data:=.fields #[vl,vu,.none] } };exact tail_any (ops:=[.ref s3.heap.objs.size,v]) ht hT hg (by with_unfolding_all rfl)
abbrev bH (xs:List V)(lo hi:Option Int):List V:=(xs.drop (HT.aO xs.length 0 lo)).take (HT.aO xs.length xs.length hi-HT.aO xs.length 0 lo)
def iJ (xs:List V)(lo hi:Option Int):(bH xs lo hi).length<=xs.length:=by
 unfold bH;rw[dL,le]
 omega
abbrev E7 (K:W.Frag):V->Option Int->Option Int->Hp->VK->Prop:=λx lo hi H Q=>∃ a xs,x=.ref a/\a5 K H a xs/\
 ¬ (HT.aO xs.length 0 lo=0/\HT.aO xs.length xs.length hi=xs.length)/\∀ p,H p=none->Q (.ref p) (upd H p (.tup (bH xs lo hi)))
def DV:EO X (E7 X.K):=by
 intro Y s U H x v vl vu lo hi sl Q I rx hs pl pu h;obtain⟨a,xs,rfl,hx,hw,q⟩:=h;cases rx;obtain⟨its,r,ht,hz⟩:=I.tuple hx;have hlen:its.toArray.size=xs.length:=by rw[im];exact r.length.symm
 refine⟨"tuple",_,PyProof.Rows.slot_tuple_getitem.lookup,ht.typeIs,?_⟩;refine HT.gh ht hs pl pu (by rw[hlen];exact hw) ?_ (by rw[hlen];exact hz);rw[hlen];refine⟨.ref s.heap.objs.size,_,I.laid (t':=s.toks) (o:=.tup (bH xs lo hi)) (λb ob q=>tz _ q) (re _) ?_,rfl,q _ (I.hok.fresh (re _))⟩;exact⟨Nat.le_trans (iJ xs lo hi) hz,_,(r.drop (HT.aO xs.length 0 lo)).take (HT.aO xs.length xs.length hi-HT.aO xs.length 0 lo),IsTup.new _ _⟩
end
abbrev rE (n:Nat)(i:Int):Option Nat:=if 0<=i then(if i<n then some i.toNat else none) else if -(n:Int)<=i then some (i+n).toNat else none
variable {α:Type}
abbrev fH (xs:List α)(i:Int):Option α:=(rE xs.length i).bind λj=>xs[j]?
variable {n:Nat}
def sZ {i:Int}{j:Nat}(h:rE n i=some j):seqIndex? i n=some j/\j<n/\ -(n:Int)<=i/\i<n:=by
 unfold rE at h
 by_cases h0:0<=i
 .rw[if_pos h0]at h
  by_cases h1:i<n
  .rw[if_pos h1]at h;have e:i.toNat=j:=Option.some.inj h;exact⟨by rw[seqIndex_of h0 h1,e],by omega,by omega,h1⟩
  .rw[if_neg h1]at h;cases h
 .rw[if_neg h0]at h
  by_cases h1: -(n:Int)<=i
  .rw[if_pos h1]at h;have e:(i+n).toNat=j:=Option.some.inj h;exact⟨by rw[seqIndex_neg nofun h1,e],by omega,h1,by omega⟩
  .rw[if_neg h1]at h;cases h
def mL {xs:List α}{i:Int}{v:α}(h:fH xs i=some v):∃ j,seqIndex? i xs.length=some j/\xs[j]? =some v/\j<xs.length/\ -(xs.length:Int)<=i/\i<xs.length:=by
 unfold fH at h;cases e:rE xs.length i with
 |none=>rw[e]at h;cases h
 |some j=>
  rw[e]at h;obtain⟨h1,h2,h3,h4⟩:=sZ e;exact⟨j,h1,h,h2,h3,h4⟩
def bL {xs:List α}{j:Nat}{v:α}(h:xs[j]? =some v):fH xs (j:Int)=some v:=by
 have hj:j<xs.length:=(sK.mp h).1;have e:rE xs.length (j:Int)=some j:=by
  unfold rE;rw[if_pos nofun,if_pos nofun];simp
 unfold fH;rw[e];exact h
abbrev rA (b:Expr):Prop:=∀ o i,subscripted b false o i=operate [o,i] (getItem o i)
abbrev EG (X:Cx)(r:R2):Prop:=
 ∀ (value slice:Expr) (Y:JV) (s:Shared) (U:St) (H:Hp) (x y:V) (v u:Value) (Q:VK),Inv X Y U H s->RelV x v->RelV y u->r x y H Q->
  subscripted slice false v u=operate [v,u] (getItem v u)->wpAny (model X.prog X.w) X.A (subscriptTail value slice v u) (EP X Y U Q) X.xe s
abbrev B6 (X:Cx)(id:String)(r:V->List V->Hp->VK->Prop):Prop:=
 ∀ (Y:JV) (s:Shared) (U:St) (H:Hp) (x:V) (xs:List V) (v:Value) (us:List Value) (Q:VK),Inv X Y U H s->RelV x v->Vals xs us->r x xs H Q->
  wpAny (model X.prog X.w) X.A (call (.builtin id) (v::us)) (EP X Y U Q) X.xe s
variable {Y:JV}{U:St}{H:Hp}{s:Shared}{y:V}{u:Value}
section
variable {X:Cx}{a b:Expr}{ta tb:TE}{pos:Pos}
def GV {r:R2}(hr:EG X r)(ha:PE X a ta)(hb:PE X b tb)(hs:rA b):PE X (.Subscript a b pos) (Hb r ta tb):=by
 intro Y s U H Q I h;exact Subscript_ (CW ha hb I h λv u s2 x y H2 I2 rx ry q=>hr a b Y s2 U H2 x y v u Q I2 rx ry q (hs _ _))
abbrev HS (K:W.Frag):R2:=λx y H Q=>∃ p xs i v,x=.ref p/\y=.int i/\aP K H p xs/\fH xs i=some v/\Q v H
abbrev HE (K:W.Frag):R2:=λx y H Q=>∃ p xs i v,x=.ref p/\y=.int i/\a5 K H p xs/\fH xs i=some v/\Q v H
abbrev Ic:R2:=λx y H Q=>∃ z i c,x=.str z/\y=.int i/\z.length<=ce/\fH z.cps.toList i=some c/\Q (.str ⟨#[c]⟩) H
def y9:EG X (HS X.K):=by
 intro value slice Y s U H x y v u Q I rx ry h hs;obtain⟨p,xs,i,z,rfl,rfl,hq,he,q⟩:=h;cases rx;obtain⟨t,rfl⟩:=ry;obtain⟨its,r,pl,hz⟩:=I.list hq;obtain⟨j,h1,h2,h3,h4,h5⟩:=mL he;obtain⟨w,ew,rw'⟩:=r.get h2;have hl:=r.length;have hn:=dS;have fin:EP X Y U Q w s:=⟨z,H,I,rw',q⟩
 by_cases h0:0<=i
 .have hj:i.toNat=j:=by
   rw[seqIndex_of h0 h5]at h1;exact Option.some.inj h1
  exact item_listR pl.isList h0 nofun (by rw[hj];simpa using ew) fin hs
 .have hj:(i+(its.toArray.size:Int)).toNat=j:=by
   rw[seqIndex_neg nofun h4]at h1;rw[im,<-hl];exact Option.some.inj h1
  exact subscriptTail_builtinR (x:=w) pl.isList.typeIs slot_list_getitem.lookup
   (wpAny_getItem_list_neg (Q:=λr s'=>r=w/\EP X Y U Q r s') pl.isList nofun (by rw[im]<;>omega) nofun (by rw[hj];simpa using ew) ⟨rfl,fin⟩) hs
def CT:EG X (HE X.K):=by
 intro value slice Y s U H x y v u Q I rx ry h hs;obtain⟨p,xs,i,z,rfl,rfl,hq,he,q⟩:=h;cases rx;obtain⟨t,rfl⟩:=ry;obtain⟨its,r,pl,hz⟩:=I.tuple hq;obtain⟨j,h1,h2,h3,h4,h5⟩:=mL he;obtain⟨w,ew,rw'⟩:=r.get h2;have hl:=r.length;have hn:=dS;have fin:EP X Y U Q w s:=⟨z,H,I,rw',q⟩;exact subscriptTail_builtinR (x:=w) pl.typeIs slot_tuple_getitem.lookup
  (getItem_tuple (j:=j) (Q:=λr s'=>r=w/\EP X Y U Q r s') pl nofun nofun (by rw[im,<-hl];exact h1) (by simpa using ew) ⟨rfl,fin⟩) hs
def C6:EG X Ic:=by
 intro value slice Y s U H x y v u Q I rx ry h hs;obtain⟨z,i,c,rfl,rfl,hz,he,q⟩:=h;obtain⟨t,rfl⟩:=rx;obtain⟨t',rfl⟩:=ry;obtain⟨j,h1,h2,h3,h4,h5⟩:=mL he;have hl:z.cps.toList.length=z.length:=by simp[Str.length]
 rw[hl]at h1 h4 h5;have hn:=dS;exact tail_any (typeIs_str s z t) slot_str_getitem.lookup (getItem_str (c:=c) (by
  have e1:decide (i< -(2 ^ 63:Int))=false:=decide_eq_false nofun;have e2:decide (i>=2 ^ 63)=false:=decide_eq_false nofun;rw[e1,e2,Bool.or_false]) (by rw[h1];simpa using h2) ⟨.str ⟨#[c]⟩,H,I.tok _,⟨_,rfl⟩,q⟩) hs
def qQ (its:List Value)(n j:Nat)(u:Value):Obj.mapSeq (·.setIfInBounds j u) { cls:=.type "list",data:=.seq its.toArray n }={ cls:=.type "list",data:=.seq (its.set j u).toArray n }:=by
 simp[Obj.mapSeq]
def Inv.lst {Y:JV}{U:St}{H:Hp}{s:Shared}{p:Addr}{xs:List V}(I:Inv X Y U H s)(h:H p=some (.lst xs)):
  ∃ (its:List Value) (n:Nat),Vals xs its/\s.heap.get? p=some { cls:=.type "list",data:=.seq its.toArray n }/\xs.length<=ce:=by
 obtain⟨z,its,n,r,e⟩:=I.hok p _ h;exact⟨its,n,r,e,z⟩
def Inv.CU {p:Addr}{xs ys:List V}{its its':List Value}{n':Nat}{f:Obj->Obj}(I:Inv X Y U H s)(h:H p=some (.lst xs))
  (ho:s.heap.get? p=some { cls:=.type "list",data:=.seq its.toArray n }) (hf:f { cls:=.type "list",data:=.seq its.toArray n }={ cls:=.type "list",data:=.seq its'.toArray n' }) (r:Vals ys its') (hz:ys.length<=ce) (t:Nat):
  Inv X Y U (upd H p (.lst ys)) { s with heap:=s.heap.update p f,toks:=t }:=by
 have e:(s.heap.update p f).get? p=some { cls:=.type "list",data:=.seq its'.toArray n' }:=by
  rw[Heap.get?_update_self f ho (by rw[hf]<;>rfl),hf]
 refine I.write (x:=p) (e:=p) (by rw[h];trivial) (.inl rfl) (λb u hb q=>(Heap.get?_update_other _ _ (Ne.symm hb)).trans q) ⟨_,e⟩ ?_;exact⟨hz,its',n',r,e⟩
abbrev FO:V->V->V->Hp->(Hp->Prop)->Prop:=λo i v H Q=>∃ p xs k j,o=.ref p/\i=.int k/\H p=some (.lst xs)/\rE xs.length k=some j/\Q (upd H p (.lst (xs.set j v)))
def set_list:Ba X FO:=by
 intro Y s U H o i v ov iv u Q I ro ri rv h;obtain⟨p,xs,k,j,rfl,rfl,hp,hj,q⟩:=h;cases ro;obtain⟨t,rfl⟩:=ri;obtain⟨its,n,r,ho,hz⟩:=I.lst hp;obtain⟨h1,h2,h3,h4⟩:=sZ hj;have hl:=r.length;have hn:=dS;have I':Inv X Y U (upd H p (.lst (xs.set j v))) { s with heap:=s.heap.update p (Obj.mapSeq (·.setIfInBounds j u)) }:=
  I.CU hp ho (qQ its n j u) (r.set rv j) (by rw[length_set];exact hz) s.toks
 by_cases h0:0<=k
 .have hk:k.toNat=j:=by
   rw[seqIndex_of h0 h4]at h1;exact Option.some.inj h1
  exact W.ki_setAt ho h0 nofun (by rw[im,<-hl];exact h4) (by rw[hk];exact⟨_,I',q⟩)
 .have hk:(k+(its.toArray.size:Int)).toNat=j:=by
   rw[seqIndex_neg nofun h3]at h1;rw[im,<-hl];exact Option.some.inj h1
  exact W.ki_setBack ho nofun (by rw[im,<-hl];exact h3) nofun (by rw[hk];exact⟨_,I',q⟩)
def lI (lo hi:Option Int)(n:Nat):(sliceBounds lo hi none n).1=((HT.aO n 0 lo:Nat):Int)/\(sliceBounds lo hi none n).2.1=((HT.aO n n hi:Nat):Int)/\(sliceBounds lo hi none n).2.2=1:=by
 refine⟨?_,?_,rfl⟩
 .cases lo with
  |none=>simp[sliceBounds,HT.aO]
  |some i=>
   simp only[sliceBounds,HT.aO,Option.getD_none,show(1:Int)>0 by decide,if_true]
   by_cases h:i<0
   .simp only[h,if_true]<;>omega
   .simp only[h,if_false]<;>omega
 .cases hi with
  |none=>simp[sliceBounds,HT.aO]
  |some i=>
   simp only[sliceBounds,HT.aO,Option.getD_none,show(1:Int)>0 by decide,if_true]
   by_cases h:i<0
   .simp only[h,if_true]<;>omega
   .simp only[h,if_false]<;>omega
def ku (its:List Value)(lo hi:Option Int):slicePick its.toArray lo hi none=((its.drop (HT.aO its.length 0 lo)).take (HT.aO its.length its.length hi-HT.aO its.length 0 lo)).toArray:=by
 obtain⟨h1,h2,h3⟩:=lI lo hi its.toArray.size;unfold slicePick;rw[h1,h2,h3];simp only[sliceRange_one,pick_run,im]<;>rfl
abbrev Iz (K:W.Frag):V->Option Int->Option Int->Hp->VK->Prop:=λx lo hi H Q=>∃ a xs,x=.ref a/\aP K H a xs/\∀ p,H p=none->Q (.ref p) (upd H p (.lst (bH xs lo hi)))
def Ad:EO X (Iz X.K):=by
 intro Y s U H x v vl vu lo hi sl Q I rx hs pl pu h;obtain⟨a,xs,rfl,hx,q⟩:=h;cases rx;obtain⟨its,r,ht,hz⟩:=I.list hx;have hlen:=r.length;refine⟨"list",_,slot_list_getitem.lookup,ht.isList.typeIs,?_⟩;refine wpAny_getItem_list_slice ht.isList hs pl pu .none (by simp) ?_ (by rw[im]<;>omega);rw[ku,<-hlen];refine⟨.ref s.heap.objs.size,_,I.laid (t':=s.toks) (o:=.lst (bH xs lo hi)) (λb ob q=>tz _ q) (re _) ?_,rfl,q _ (I.hok.fresh (re _))⟩;exact⟨Nat.le_trans (iJ xs lo hi) hz,_,0,(r.drop (HT.aO xs.length 0 lo)).take (HT.aO xs.length xs.length hi-HT.aO xs.length 0 lo),ul _ rfl⟩
abbrev aE:V->Bool
 | .non=>true
 | .bl _=>true
 | .int _=>true
 | .str _=>true
 |_=>false
abbrev gL:V->V->Bool
 | .non,.non=>true
 | .bl a,.bl b=>a ==b
 | .bl a,.int b=>(if a then 1 else 0) ==b
 | .int a,.bl b=>a ==(if b then 1 else 0)
 | .int a,.int b=>a ==b
 | .str a,.str b=>a ==b
 |_,_=>false
def vn {A:Around}{x:V}{v:Value}(ry:RelV y u)(rx:RelV x v)(fy:aE y=true)(fx:aE x=true):SeqAt.EqAt A s u v (gL y x):=by
 cases y with
 |non=>
  cases ry;cases x with
  |non=>cases rx;exact SeqAt.EqAt.same _
  |bl b=>cases rx;exact SeqAt.EqAt.none_bool b
  |int b=>obtain⟨t,rfl⟩:=rx;exact SeqAt.EqAt.none_int b t
  |str b=>obtain⟨t,rfl⟩:=rx;exact SeqAt.EqAt.none_str b t
  |_=>exact absurd (show false=true from fx) Bool.false_ne_true
 |bl a=>
  cases ry;cases x with
  |non=>cases rx;exact SeqAt.EqAt.bool_none a
  |bl b=>cases rx;exact SeqAt.EqAt.bool_bool a b
  |int b=>obtain⟨t,rfl⟩:=rx;exact SeqAt.EqAt.bool_int a b t
  |str b=>obtain⟨t,rfl⟩:=rx;exact SeqAt.EqAt.bool_str a b t
  |_=>exact absurd (show false=true from fx) Bool.false_ne_true
 |int a=>
  obtain⟨t',rfl⟩:=ry;cases x with
  |non=>cases rx;exact SeqAt.EqAt.int_none a t'
  |bl b=>cases rx;exact SeqAt.EqAt.int_bool a t' b
  |int b=>obtain⟨t,rfl⟩:=rx;exact SeqAt.EqAt.int_int a t' b t
  |str b=>obtain⟨t,rfl⟩:=rx;exact SeqAt.EqAt.int_str a t' b t
  |_=>exact absurd (show false=true from fx) Bool.false_ne_true
 |str a=>
  obtain⟨t',rfl⟩:=ry;cases x with
  |non=>cases rx;exact SeqAt.EqAt.str_none a t'
  |bl b=>cases rx;exact SeqAt.EqAt.str_bool a t' b
  |int b=>obtain⟨t,rfl⟩:=rx;exact SeqAt.EqAt.str_int a t' b t
  |str b=>obtain⟨t,rfl⟩:=rx;exact SeqAt.EqAt.str_str a t' b t
  |_=>exact absurd (show false=true from fx) Bool.false_ne_true
 |_=>exact absurd (show false=true from fy) Bool.false_ne_true
abbrev qB (x:V)(u:Value):Bool:=match u with
 | .none=>gL .non x
 | .bool b=>gL (.bl b) x
 | .int i _=>gL (.int i) x
 | .str z _=>gL (.str z) x
 |_=>false
def xk {x:V}(r:RelV y u)(f:aE y=true):qB x u=gL y x:=by
 cases y with
 |non=>cases r;rfl
 |bl b=>cases r;rfl
 |int i=>obtain⟨t,rfl⟩:=r;rfl
 |str z=>obtain⟨t,rfl⟩:=r;rfl
 |_=>exact absurd (show false=true from f) Bool.false_ne_true
def gx {x:V}:∀ {xs:List V}{us:List Value},Vals xs us->xs.all aE=true->us.any (qB x)=xs.any λy=>gL y x
 |_,_,.nil,_=>rfl
 |y::xs,u::us,.cons r t,f=>by
  rw[all_cons,mo]at f;rw[any_cons,any_cons,xk r f.1,gx t f.2]
def dR {A:Around}{s:Shared}{x:V}{v:Value}(rx:RelV x v)(fx:aE x=true):∀ {xs:List V}{us:List Value},Vals xs us->xs.all aE=true->∀ u ∈ us,SeqAt.EqAt A s u v (qB x u)
 |_,_,.nil,_=>λu hu=>by cases hu
 |y::xs,u::us,.cons r t,f=>λu' hu=>by
  rw[all_cons,mo]at f;rcases lw.mp hu with rfl|hu
  .rw[xk r f.1];exact vn r rx f.1 fx
  .exact dR rx fx t f.2 u' hu
abbrev uM (x:V)(xs:List V):Bool:=xs.any λy=>gL y x
abbrev IS (K:W.Frag)(neg:Bool):R2:=λx y H Q=>∃ p xs,y=.ref p/\(aP K H p xs\/a5 K H p xs)/\aE x=true/\xs.all aE=true/\Q (.bl (if neg then !uM x xs else uM x xs)) H
def ur:cz X (compareOp .In) (IS X.K false):=by
 intro Y s U H x y v u Q I rx ry h;obtain⟨p,xs,rfl,hq,fx,fs,q⟩:=h;cases ry;rcases hq with hq|hq
 .obtain⟨its,r,pl,hz⟩:=I.list hq;refine SeqAt.in_listAt (qB x) pl.isList (λw hw=>dR rx fx r fs w (by simpa using hw)) ⟨.bl _,H,I,rfl,?_⟩;rw[show its.toArray.any (qB x)=its.any (qB x) by simp,gx r fs];exact q
 .obtain⟨its,r,pl,hz⟩:=I.tuple hq;refine SeqAt.in_tupleAt (qB x) pl (λw hw=>dR rx fx r fs w (by simpa using hw)) ⟨.bl _,H,I,rfl,?_⟩;rw[show its.toArray.any (qB x)=its.any (qB x) by simp,gx r fs];exact q
def lE:cz X (compareOp .NotIn) (IS X.K true):=by
 intro Y s U H x y v u Q I rx ry h;obtain⟨p,xs,rfl,hq,fx,fs,q⟩:=h;cases ry;rcases hq with hq|hq
 .obtain⟨its,r,pl,hz⟩:=I.list hq;refine SeqAt.notIn_listAt (qB x) pl.isList (λw hw=>dR rx fx r fs w (by simpa using hw)) ⟨.bl _,H,I,rfl,?_⟩;rw[show its.toArray.any (qB x)=its.any (qB x) by simp,gx r fs];exact q
 .obtain⟨its,r,pl,hz⟩:=I.tuple hq;refine SeqAt.notIn_tupleAt (qB x) pl (λw hw=>dR rx fx r fs w (by simpa using hw)) ⟨.bl _,H,I,rfl,?_⟩;rw[show its.toArray.any (qB x)=its.any (qB x) by simp,gx r fs];exact q
def mV:cg X (.type "list") (λxs H Q=>∃ p ys,xs=[.ref p]/\(aP X.K H p ys\/a5 X.K H p ys)/\∀ l,H l=none->Q (.ref l) (upd H l (.lst ys))):=by
 intro Y s U H xs us Q I r h;obtain⟨p,ys,rfl,hq,q⟩:=h;obtain⟨u,rfl,rx⟩:=vals1 r;cases rx;have fin:∀ (its:List Value),Vals ys its->ys.length<=ce->∀ (h':Heap) (c':Nat),(∀ b o',s.heap.get? b=some o'->h'.get? b=some o')->
   h'.get? s.heap.objs.size=some { cls:=.type "list",dict:=none,data:=.seq its.toArray c',slots:=#[] }->EP X Y U Q (.ref s.heap.objs.size) { s with heap:=h' }:=λits r' hz h' c' kp e=>
  ⟨.ref s.heap.objs.size,_,I.laid (t':=s.toks) kp (re _) (show ax X.prog X.w _ h' _ (.lst ys) from⟨hz,its,c',r',e⟩),rfl,q _ (I.hok.fresh (re _))⟩
 rcases hq with hq|hq
 .obtain⟨its,r',pl,hz⟩:=I.list hq;have hlen:=r'.length;obtain⟨o,ho,hc,n,hd⟩:=pl.isList;exact call_list_seq p (.inl rfl) ho hc hd (λh' c' kp e=>fin its r' hz h' c' kp e) (by simp only[im]<;>omega)
 .obtain⟨its,r',pl,hz⟩:=I.tuple hq;have hlen:=r'.length;obtain⟨o,ho,hc,n,hd⟩:=pl;exact call_list_seq p (.inr rfl) ho hc hd (λh' c' kp e=>fin its r' hz h' c' kp e) (by simp only[im]<;>omega)
def j9:cg X (.type "tuple") (λxs H Q=>∃ p ys,xs=[.ref p]/\((aP X.K H p ys/\∀ l,H l=none->Q (.ref l) (upd H l (.tup ys)))\/(a5 X.K H p ys/\Q (.ref p) H))):=by
 intro Y s U H xs us Q I r h;obtain⟨p,ys,rfl,h⟩:=h;obtain⟨u,rfl,rx⟩:=vals1 r;cases rx;rcases h with⟨hq,q⟩|⟨hq,q⟩
 .obtain⟨its,r',pl,hz⟩:=I.list hq;have hlen:=r'.length;refine call_tuple_list pl.isList (λh' kp=>?_) (by simp only[im]<;>omega);have I1:Inv X Y U H { s with heap:=h' }:=I.kept (t':=s.toks) kp;have I2:Inv X Y U (upd H h'.objs.size (.tup ys)) { s with heap:=h'.push { cls:=.type "tuple",data:=.seq its.toArray } }:=
   I1.laid (t':=s.toks) (λb o e=>tz _ e) (re _) (show ax X.prog X.w _ _ _ (.tup ys) from⟨hz,its,r',IsTup.new _ _⟩)
  exact⟨.ref h'.objs.size,_,I2,rfl,q _ (I1.hok.fresh (re _))⟩
 .obtain⟨its,r',pl,hz⟩:=I.tuple hq;exact call_tuple_same pl ⟨.ref p,H,I,rfl,q⟩
abbrev Iq (K:W.Frag)(T:String)(x:V)(H:Hp):Prop:=match x with
 | .str _=>T="str"
 | .int _=>T="int"
 | .ref p=>(T="list"/\∃ xs,aP K H p xs)\/(T="tuple"/\∃ o,K.lookup p=some o/\o.cls=.type "tuple"/\o.dict=none)\/
   (T="dict"/\((∃ kvs,H p=some (.dK kvs))\/∃ kvs,H p=some (.dT kvs)))\/(T="set"/\∃ S n,H p=some (.set S n))
 |_=>False
def xQ {T:String}{x:V}{v:Value}(I:Inv X Y U H s)(r:RelV x v)(ty:Iq X.K T x H):
  s.TypeIs v T/\∀ a,v=.ref a->∃ ob,s.heap.get? a=some ob/\ob.dict=none:=by
 cases x with
 |str z=>
  obtain⟨t,rfl⟩:=r;cases(show T="str" from ty);exact⟨typeIs_str s z t,λ_ e=>nomatch e⟩
 |int i=>
  obtain⟨t,rfl⟩:=r;cases(show T="int" from ty);exact⟨typeIs_int s i t,λ_ e=>nomatch e⟩
 |ref p=>
  cases r;rcases ty with⟨rfl,xs,hq⟩|⟨rfl,o,hk,hc,hd⟩|⟨rfl,hk⟩|⟨rfl,S,n,hk⟩
  .obtain⟨its,_,pl,_⟩:=I.list hq;refine⟨pl.isList.typeIs,λa e=>?_⟩;cases e;obtain⟨o,n,e,c,hd,_⟩:=pl;exact⟨o,e,hd⟩
  .refine⟨⟨o,I.bw p o hk,hc⟩,λa e=>?_⟩;cases e;exact⟨o,I.bw _ o hk,hd⟩
  .have z:∃ o,s.heap.get? p=some o/\o.ExactDict:=by
    rcases hk with⟨kvs,hk⟩|⟨kvs,hk⟩
    .obtain⟨_,_,_,_,o,_,_,e,ex,_⟩:=I.hok p _ hk;exact⟨o,e,ex⟩
    .obtain⟨_,_,_,_,o,_,_,e,ex,_⟩:=I.hok p _ hk;exact⟨o,e,ex⟩
   obtain⟨o,e,ex⟩:=z;refine⟨⟨o,e,ex.1⟩,λa e2=>?_⟩;cases e2;exact⟨o,e,ex.2.1⟩
  .obtain⟨o,_,_,_,e,ex,_⟩:=I.hok p _ hk;refine⟨⟨o,e,ex.1⟩,λa e2=>?_⟩;cases e2;exact⟨o,e,ex.2.1⟩
 |_=>exact False.elim ty
abbrev IG (K:W.Frag)(T:String)(r:V->List V->Hp->VK->Prop)(to:TE):TE:=λU H Q=>to U H λx H1=>Iq K T x H1/\r x [] H1 Q
abbrev Jz (K:W.Frag)(T:String)(r:V->List V->Hp->VK->Prop)(to:TE)(t:TA):TE:=λU H Q=>to U H λx H1=>Iq K T x H1/\t U H1 λxs H2=>r x xs H2 Q
variable {o e:Expr}{es:List Expr}{to:TE}{t:TA}{name:Str}{apos cpos:Pos}{T id:String}{r:V->List V->Hp->VK->Prop}
def CY (pa:PlainAttrs T)(slot:Slot T name id)(hty:typeOf (.builtin id)=pure (.type "method_descriptor")) (hm:B6 X id r) (ho:PE X o to)
  (hbase:attributeBase o name X.env (eval o X.env)=eval o X.env:=by rfl) (hline:(apos.endLine ==cpos.line)=true:=by rfl):PE X (.Call (.Attribute o name apos) [] [] cpos) (IG X.K T r to):=by
 intro Y s U H Q I h;refine wpAny_Call_method0_late hbase hline (aC (ho Y s U H _ I h) λv s1 ⟨x,H1,I1,r1,ty,q1⟩=>?_);obtain⟨h1,h2⟩:=xQ I1 r1 ty;exact⟨T,id,pa,slot,hty,h1,h2,Calls.callWith_builtin rfl (PySem.evalArgs_none (hm Y s1 U H1 x [] v [] Q I1 r1 .nil q1))⟩
def Bm (pa:PlainAttrs T)(slot:Slot T name id)(hty:typeOf (.builtin id)=pure (.type "method_descriptor")) (hm:B6 X id r) (ho:PE X o to) (ha:PA X (e::es) t)
  (hbase:attributeBase o name X.env (eval o X.env)=eval o X.env:=by rfl)
  (hfew:((backTo cpos (bv (e::es) X.env)).all (λx=>!x.1)&&(backToKw cpos (keywordEach [] X.env)).all (λx=>x.1.isSome)
   &&decide ((e::es).length+([]:List Keyword).length+(if([]:List Keyword).isEmpty then 0 else 1)<30))=true:=by rfl)
  (hline:(apos.endLine ==cpos.line)=true:=by rfl) (hs:bv (e::es) X.env=(false,eval e X.env)::bv es X.env:=by rfl) (hplain:(backTo cpos (bv es X.env)).any (·.1)=false:=by rfl):
  PE X (.Call (.Attribute o name apos) (e::es) [] cpos) (Jz X.K T r to t):=by
 intro Y s U H Q I h;refine wpAny_Call_method_late hbase hfew hline rfl (aC (ho Y s U H _ I h) λv s1 ⟨x,H1,I1,r1,ty,q1⟩=>?_);obtain⟨h1,h2⟩:=xQ I1 r1 ty;refine⟨T,id,pa,slot,hty,h1,h2,?_⟩;have hA:=ha cpos Y s1 U H1 _ I1 q1;rw[hs]at hA⊢;refine Calls.callWith_builtin (by show(false||(backTo cpos (bv es X.env)).any (·.1))=false;rw[hplain]<;>rfl) (Calls.evalArgs_plain ?_);exact aC hA λus s2 ⟨vs,H2,I2,r2,q2⟩=>hm Y s2 U H2 x vs v us Q I2 r1 r2 q2
/- xs.append(e),list.index on a module's tuple .. are B6 facts of 06m -/
end
abbrev HH (X:Cx)(id:String)(r:V->List V->Hp->VK->Prop):Prop:=
 ∀ (Y:JV) (s:Shared) (U:St) (H:Hp) (x:V) (xs:List V) (v:Value) (us:List Value) (Q:VK),Inv X Y U H s->RelV x v->Vals xs us->r x xs H Q->
  wpAny (model X.prog X.w) X.A (call (.builtin id) (v::us)) (EP X Y U Q) X.xe s
def Vals.one:∀ {x:V}{us:List Value},Vals [x] us->∃ u,us=[u]/\RelV x u
 |_,_,.cons r .nil=>⟨_,rfl,r⟩
def Vals.zero:∀ {us:List Value},Vals [] us->us=[]
 |_,.nil=>rfl
def Vals.reverse {xs:List V}{us:List Value}(h:Vals xs us):Vals xs.reverse us.reverse:=by
 induction h with
 |nil=>exact .nil
 |cons r t ih=>rw[List.reverse_cons,List.reverse_cons];exact Vals.append ih (.cons r .nil)
section
variable {X:Cx}{Y:JV}{U:St}{H:Hp}{s:Shared}{l b:Addr}{xs ys zs:List V}
def Inv.CV {its its':List Value}{f:Array Value->Array Value}{t':Nat}(I:Inv X Y U H s)(hH:H l=some (.lst xs))
  (e:s.heap.get? l=some { cls:=.type "list",data:=.seq its.toArray n }) (hf:f its.toArray=its'.toArray) (hv:Vals ys its') (hz:ys.length<=ce):
  Inv X Y U (upd H l (.lst ys)) { s with heap:=s.heap.update l (Obj.mapSeq f),toks:=t' }:=by
 have q:=PySem.IsL.update e f;rw[hf]at q;refine I.write (x:=l) (e:=l) (by rw[hH];exact trivial) (.inl rfl) (λb' u hb hu=>(Heap.get?_update_other s.heap (Obj.mapSeq f) (Ne.symm hb)).trans hu) ⟨_,q⟩ ?_;exact⟨hz,its',_,hv,q⟩
def Inv.Hs {its:List Value}{t':Nat}(I:Inv X Y U H s)(hv:Vals ys its)(hz:ys.length<=ce):
  Inv X Y U (upd H s.heap.objs.size (.lst ys)) { s with heap:=s.heap.push { cls:=.type "list",data:=.seq its.toArray },toks:=t' }:=
 I.laid (λ_ _ q=>tz _ q) (re _) ⟨hz,its,0,hv,ul _ rfl⟩
def Inv.fresh (I:Inv X Y U H s):H s.heap.objs.size=none:=I.hok.fresh (re _)
def Inv.qH (I:Inv X Y U H s)(hH:H l=some (.lst xs)):xs.length<=ce/\∃ (its:List Value) (n:Nat),Vals xs its/\xs.length=its.length/\s.heap.get? l=some { cls:=.type "list",data:=.seq its.toArray n }:=by
 obtain⟨z,its,n,r,e⟩:=I.hok l _ hH;exact⟨z,its,n,r,r.length,e⟩
def vt (h:n<=ce):Builtin.List.listTooLong n=false:=by
 unfold Builtin.List.listTooLong;exact decide_eq_false nofun
end
section
variable {X:Cx}
abbrev yL:V->List V->Hp->VK->Prop:=λx vs H Q=>∃ l xs y,x=.ref l/\vs=[y]/\H l=some (.lst xs)/\xs.length<ce/\Q .non (upd H l (.lst (xs++[y])))
def gM:HH X "list.append" yL:=by
 intro Y s U H x vs v us Q I rx rv h;obtain⟨l,xs,y,rfl,rfl,hH,hz,q⟩:=h;cases rx;obtain⟨u,rfl,ru⟩:=rv.one;obtain⟨z,its,n,r,hl,e⟩:=I.qH hH;refine call_meets F.slot_list_append ⟨_,e,rfl⟩ F.entry_list_append (F.args_list_append_2 _ _) (PySem.list_append l its.toArray n u (by rw[im];omega)) ⟨e,?_⟩;refine⟨.non,_,I.CV (its':=its++[u]) hH e (by simp) (r.append (.cons ru .nil)) ?_,rfl,q⟩;rw[db,gt]
 omega
abbrev zp:V->List V->Hp->VK->Prop:=λx vs H Q=>∃ l b xs zs,x=.ref l/\vs=[.ref b]/\H l=some (.lst xs)/\H b=some (.lst zs)/\xs.length+zs.length<=ce/\Q .non (upd H l (.lst (xs++zs)))
def uK:HH X "list.extend" zp:=by
 intro Y s U H x vs v us Q I rx rv h;obtain⟨l,b,xs,zs,rfl,rfl,hH,hB,hz,q⟩:=h;cases rx;obtain⟨u,rfl,ru⟩:=rv.one;cases ru;obtain⟨z,its,n,r,hl,e⟩:=I.qH hH;obtain⟨z2,kf,n2,r2,hl2,e2⟩:=I.qH hB;have hsz:its.toArray.size+kf.toArray.size<=ce:=by rw[im,im];omega
 have hlong:¬ (!its.toArray.isEmpty&&Builtin.List.listTooLong (its.toArray.size+kf.toArray.size))=true:=by
  rw[vt hsz,Bool.and_false];exact Bool.false_ne_true
 refine call_meets F.slot_list_extend ⟨_,e,rfl⟩ F.entry_list_extend (F.args_list_extend_2 _ _)
  (AutoSeq1.list_extend_list_list_0 l its.toArray n b kf.toArray n2 hlong (by rw[im];omega) nofun) ⟨e,e2,?_⟩
 refine⟨.non,_,I.CV (its':=its++kf) hH e (by simp) (r.append r2) ?_,rfl,q⟩;rw[db]
 omega
abbrev Ii:R2:=λx y H Q=>∃ l b xs zs,x=.ref l/\y=.ref b/\H l=some (.lst xs)/\H b=some (.lst zs)/\xs.length+zs.length<=ce/\∀ p,H p=none->Q (.ref p) (upd H p (.lst (xs++zs)))
def EB:cz X (binaryOp .Add) Ii:=by
 intro Y s U H x y v u Q I rx ry h;obtain⟨l,b,xs,zs,rfl,rfl,hH,hB,hz,q⟩:=h;cases rx;cases ry;obtain⟨z,its,n,r,hl,e⟩:=I.qH hH;obtain⟨z2,kf,n2,r2,hl2,e2⟩:=I.qH hB;refine PySem.P.add_list e e2 ?_ (by rw[im,im];omega);have ea:its.toArray++kf.toArray=(its++kf).toArray:=by simp
 rw[ea];exact⟨.ref _,_,I.Hs (t':=s.toks) (r.append r2) (by rw[db];omega),rfl,q _ I.fresh⟩
end
section
variable {prog:Program}{w:World}{A:Around}{E:JU}{s:Shared}
set_option maxRecDepth 100000 in
end
section
variable {X:Cx}
end
variable {o:Option V}
section
variable {κ:Type} [DecidableEq κ]
abbrev fm (kvs:List (κ×V))(k:κ):Option V:=(kvs.find? λkv=>decide (kv.1=k)).map (·.2)
abbrev putK (kvs:List (κ×V))(k:κ)(v:V):List (κ×V):=
 if(kvs.any λkv=>decide (kv.1=k))=true then kvs.map (λkv=>if kv.1=k then(kv.1,v) else kv) else kvs++[(k,v)]
def jY {p:κ×V}{r:List (κ×V)}{k:κ}(e:p.1=k):fm (p::r) k=some p.2:=by simp[fm,find?_cons,e]
def jz {p:κ×V}{r:List (κ×V)}{k:κ}(e:¬ p.1=k):fm (p::r) k=fm r k:=by simp[fm,find?_cons,e]
def oE (k:κ):∀ kvs:List (κ×V),(kvs.any λkv=>decide (kv.1=k))=(fm kvs k).isSome
 | []=>rfl
 |p::r=>by
  rw[any_cons]
  by_cases e:p.1=k
  .simp only[jY e,decide_eq_true e,Bool.true_or,Option.isSome_some]
  .rw[jz e,decide_eq_false e,Bool.false_or];exact oE k r
def dE (kvs:List (κ×V))(k:κ)(v:V):(putK kvs k v).length<=kvs.length+1:=by
 unfold putK
 split
 .rw[cr];omega
 .rw[db,length_cons,length_nil];omega
def cV.cL {u:Option Value}(r:cV o u):o.isSome=u.isSome:=by
 cases o with
 |none=>cases u with
  |none=>rfl
  |some _=>exact(show False from r).elim
 |some _=>cases u with
  |none=>exact(show False from r).elim
  |some _=>rfl
def KV.val {kvs:List (κ×V)}{vs:List (κ×Value)}(r:KV kvs vs)(k:κ):cV (fm kvs k) (valueAt vs k):=by
 unfold KV at r
 induction r with
 |nil=>exact True.intro
 | @cons p q ps qs h t ih=>
  obtain⟨h1,h2⟩:=h
  by_cases e:p.1=k
  .have e':q.1=k:=h1.symm.trans e;have b:valueAt (q::qs) k=some q.2:=by simp[valueAt,find?_cons,e']
   rw[jY e,b];exact h2
  .have e':¬ q.1=k:=λz=>e (h1.trans z)
   have b:valueAt (q::qs) k=valueAt qs k:=by simp[valueAt,find?_cons,e']
   rw[jz e,b];exact ih
def KV.any {kvs:List (κ×V)}{vs:List (κ×Value)}(r:KV kvs vs)(k:κ):(kvs.any λkv=>decide (kv.1=k))=vs.any λkv=>decide (kv.1=k):=by
 unfold KV at r
 induction r with
 |nil=>rfl
 |cons h t ih=>rw[any_cons,any_cons,ih,h.1]
def KV.Ea {kvs:List (κ×V)}{vs:List (κ×Value)}(r:KV kvs vs)(k:κ)(ry:RelV y u):
  KV (kvs.map λkv=>if kv.1=k then(kv.1,y) else kv) (vs.map λkv=>if kv.1=k then(kv.1,u) else kv):=by
 unfold KV at r⊢
 induction r with
 |nil=>exact .nil
 | @cons p q ps qs h t ih=>
  rw[map_cons,map_cons];refine .cons ?_ ih;obtain⟨h1,h2⟩:=h
  by_cases e:p.1=k
  .rw[if_pos e,if_pos (h1.symm.trans e)];exact⟨h1,ry⟩
  .rw[if_neg e,if_neg (λz=>e (h1.trans z))];exact⟨h1,h2⟩
def KV.put {kvs:List (κ×V)}{vs:List (κ×Value)}(r:KV kvs vs)(k:κ)(ry:RelV y u):KV (putK kvs k y) (stored vs k u):=by
 unfold putK stored;rw[r.any k]
 by_cases e:(vs.any λkv=>decide (kv.1=k))=true
 .rw[if_pos e,if_pos e];exact r.Ea k ry
 .rw[if_neg e,if_neg e];exact Paired.snoc r ⟨rfl,ry⟩
def KV.length {kvs:List (κ×V)}{vs:List (κ×Value)}(r:KV kvs vs):kvs.length=vs.length:=Paired.length r
end
variable {P:Program}{w:World}
def kW {k:Key}(r:RelV (kV k) u):(aJ P w).is k u=true:=by
 cases k with
 |inl i=>obtain⟨t,e⟩:=(show ∃ t,u=Value.int i t from r);subst e;exact nB P w i t
 |inr x=>obtain⟨t,e⟩:=(show ∃ t,u=Value.str x t from r);subst e;exact pA P w x t
def kK {P:Program}{w:World}:∀ {ks:List Key}{us:List Value},Vals (ks.map kV) us->ItemsAre (aJ P w) ks us
 | [],_,r=>by rw[List.map_nil]at r;cases r;exact .nil
 |k::ks,_,r=>by
  rw[map_cons]at r;cases r with
  |cons h t=>exact .cons (kW h) (kK t)
@[reducible]def KT (H:Hp):List (List Key×V)->List (List Key×Addr×Value)->Prop:=Paired λp q=>p.1=q.1/\H q.2.1=some (.tup (p.1.map kV))/\RelV p.2 q.2.2
variable {kvs:List (List Key×V)}{xs:List (List Key×Addr×Value)}
def KT.val (r:KT H kvs xs)(k:List Key):cV (fm kvs k) ((atKey xs k).map (·.2)):=by
 induction r with
 |nil=>exact True.intro
 | @cons p q ps qs h t ih=>
  obtain⟨h1,_,h2⟩:=h
  by_cases e:p.1=k
  .have e':q.1=k:=h1.symm.trans e;have b:atKey (q::qs) k=some q.2:=by simp[atKey,find?_cons,e']
   rw[jY e,b];exact h2
  .have e':¬ q.1=k:=λz=>e (h1.trans z)
   have b:atKey (q::qs) k=atKey qs k:=by simp[atKey,find?_cons,e']
   rw[jz e,b];exact ih
def KT.Ea (r:KT H kvs xs)(k:List Key)(ry:RelV y u):
  KT H (kvs.map λkv=>if kv.1=k then(kv.1,y) else kv) (xs.map (putAt k u)):=by
 induction r with
 |nil=>exact .nil
 | @cons p q ps qs h t ih=>
  rw[map_cons,map_cons];refine .cons ?_ ih;obtain⟨h1,h2,h3⟩:=h;unfold putAt
  by_cases e:p.1=k
  .rw[if_pos e,if_pos (h1.symm.trans e)];exact⟨h1,h2,ry⟩
  .rw[if_neg e,if_neg (λz=>e (h1.trans z))];exact⟨h1,h2,h3⟩
def KT.put (r:KT H kvs xs)(k:List Key){b:Addr}(hb:H b=some (.tup (k.map kV)))(ry:RelV y u):
  KT H (putK kvs k y) (storedH xs k b u):=by
 have e:(kvs.any λkv=>decide (kv.1=k))=(atKey xs k).isSome:=by
  rw[oE,(r.val k).cL,Option.isSome_map]
 unfold putK storedH;rw[e]
 by_cases q:(atKey xs k).isSome=true
 .rw[if_pos q,if_pos q];exact r.Ea k ry
 .rw[if_neg q,if_neg q];exact Paired.snoc r ⟨rfl,hb,ry⟩
variable {H':Hp}
def KT.keeps (r:KT H kvs xs)(ht:∀ b ys,H b=some (.tup ys)->H' b=some (.tup ys)):KT H' kvs xs:=
 Paired.Em r λ_ _ z=>⟨z.1,ht _ _ z.2.1,z.2.2⟩
section
variable {P:Program}{w:World}{H:Hp}{h:Heap}{a:Addr}
def Bz {u:HO}(ok:fq P w H h)(e:Rd H a u):ax P w H h a u:=e.ok ok
def iQ {kvs:List (Key×V)}(ok:fq P w H h)(e:Rd H a (.dK kvs)):kvs.length<=ce/\(a ==sysModules)=false/\∃ vs,KV kvs vs/\h.DictOf (aJ P w) a vs:=
 show ax P w H h a (.dK kvs) from Bz ok e
def pz {kvs:List (Key×V)}(ok:fq P w H h)(e:H a=some (.dK kvs)):kvs.length<=ce/\(a ==sysModules)=false/\∃ vs,KV kvs vs/\h.DictOf (aJ P w) a vs:=iQ ok (.inl e)
def jQ {ks:List Key}(ok:fq P w H h)(e:H a=some (.tup (ks.map kV))):(tupleKind (aJ P w)).is h ks a:=by
 obtain⟨_,its,r,o,h1,h2,n,h3⟩:=(show ax P w H h a (.tup (ks.map kV)) from ok a _ e);exact⟨o,its.toArray,n,h1,h2,h3,by simpa using kK r⟩
def nD (ok:fq P w H h)(e:Rd H a (.dT kvs)):kvs.length<=ce/\(a ==sysModules)=false/\
  ∃ xs,KT H kvs xs/\h.DictOfH (tupleKind (aJ P w)) a xs:=by
 obtain⟨z,y,xs,r,o,es,ep,h1,h2,h3,h4,h5⟩:=(show ax P w H h a (.dT kvs) from Bz ok e);refine⟨z,y,xs,r,o,es,ep,h1,h2,h3,h4,λx hx=>?_,h5⟩;have all:∀ {l:List (List Key×V)}{m:List (List Key×Addr×Value)},KT H l m->∀ x ∈ m,(tupleKind (aJ P w)).is h x.1 x.2.1:=by
  intro l m q
  induction q with
  |nil=>intro x hx;exact nomatch hx
  | @cons p q ps qs hq t ih=>
   intro x hx;rcases lw.mp hx with e|hx
   .subst e;exact jQ ok (by rw[<-hq.1];exact hq.2.1)
   .exact ih x hx
 exact all r x hx
def G1 (ok:fq P w H h)(e:H a=some (.dT kvs)):kvs.length<=ce/\(a ==sysModules)=false/\
  ∃ xs,KT H kvs xs/\h.DictOfH (tupleKind (aJ P w)) a xs:=nD ok (.inl e)
end
abbrev t5 (H:Hp)(a:Addr)(y:V)(r:Option V):Prop:=
 (∃ kvs k,Rd H a (.dK kvs)/\y=kV k/\r=fm kvs k)\/∃ kvs k b,Rd H a (.dT kvs)/\y=.ref b/\H b=some (.tup (k.map kV))/\r=fm kvs k
abbrev EZ (H:Hp)(a:Addr)(y v:V)(H':Hp):Prop:=
 (∃ kvs k,H a=some (.dK kvs)/\y=kV k/\kvs.length<ce/\H'=upd H a (.dK (putK kvs k v)))\/
 ∃ kvs k b,H a=some (.dT kvs)/\y=.ref b/\H b=some (.tup (k.map kV))/\kvs.length<ce/\H'=upd H a (.dT (putK kvs k v))
variable {Q:JU}
section
variable {X:Cx}{Y:JV}{U:St}{H:Hp}{s:Shared}{a:Addr}{y v:V}{u r:Value}{o:Option V}{A:Around}{E:JU}
def Inv.big (I:Inv X Y U H s):sysModules<s.heap.objs.size:=by
 have h:mainGlobals<s.heap.objs.size:=(I.mod.glob.keeps I.bk).lt;exact Nat.lt_trans (by decide) h
def ui (hu:A.units+1<cLine)(I:Inv X Y U H s)(g:t5 H a y (some v))(ry:RelV y u)(h:∀ w' s',Inv X Y U H s'->RelV v w'->Q w' s'):
  wpAny (model X.prog X.w) A (getItem (.ref a) u) Q E s:=by
 rcases g with⟨kvs,k,e,ey,l⟩|⟨kvs,k,b,e,ey,eb,l⟩
 .subst ey;obtain⟨z,hd,vs,rel,dd⟩:=iQ I.hok e;obtain⟨w',hw,rw'⟩:=cV.some_of (v:=v) (o:=valueAt vs k) (by rw[l];exact rel.val k);exact wpAny_getItem_of (kW ry) dd.mapOf hw (h w' _ (I.tok _) rw')
 .subst ey;cases(show u=Value.ref b from ry);obtain⟨z,hd,xs,rel,dd⟩:=nD I.hok e;obtain⟨w',hw,rw'⟩:=cV.some_of (v:=v) (o:=(atKey xs k).map (·.2)) (by rw[l];exact rel.val k);obtain⟨p,hp,hp2⟩:=nb.mp hw;refine wpAny_getItem_heap (tupleKind_room_in1 hu) (jQ I.hok eb) dd hp ?_;rw[hp2];exact h w' _ (I.tok _) rw'
def Ie (hu:A.units+1<cLine)(I:Inv X Y U H s)(g:t5 H a y o)(ry:RelV y u)(h:∀ s',Inv X Y U H s'->Q (.bool o.isSome) s'):
  wpAny (model X.prog X.w) A (compareOp .In u (.ref a)) Q E s:=by
 rcases g with⟨kvs,k,e,ey,l⟩|⟨kvs,k,b,e,ey,eb,l⟩
 .subst ey;obtain⟨z,hd,vs,rel,dd⟩:=iQ I.hok e;refine wpAny_in_of (kW ry) hd dd.mapOf ?_;rw[<-(rel.val k).cL,<-l];exact h _ (I.tok _)
 .subst ey;cases(show u=Value.ref b from ry);obtain⟨z,hd,xs,rel,dd⟩:=nD I.hok e;refine wpAny_in_heap (tupleKind_room_in1 hu) (jQ I.hok eb) hd dd ?_;have q:=(rel.val k).cL;rw[Option.isSome_map]at q;rw[<-q,<-l];exact h _ (I.tok _)
def Aq (hu:A.units+1<cLine)(I:Inv X Y U H s)(g:t5 H a y o)(ry:RelV y u)(h:∀ s',Inv X Y U H s'->Q (.bool (!o.isSome)) s'):
  wpAny (model X.prog X.w) A (compareOp .NotIn u (.ref a)) Q E s:=by
 rcases g with⟨kvs,k,e,ey,l⟩|⟨kvs,k,b,e,ey,eb,l⟩
 .subst ey;obtain⟨z,hd,vs,rel,dd⟩:=iQ I.hok e;refine wpAny_notIn_of (kW ry) hd dd.mapOf ?_;rw[<-(rel.val k).cL,<-l];exact h _ (I.tok _)
 .subst ey;cases(show u=Value.ref b from ry);obtain⟨z,hd,xs,rel,dd⟩:=nD I.hok e;refine wpAny_notIn_heap (tupleKind_room_in1 hu) (jQ I.hok eb) hd dd ?_;have q:=(rel.val k).cL;rw[Option.isSome_map]at q;rw[<-q,<-l];exact h _ (I.tok _)
def je {h':Heap}{t':Nat}{ob:HO}(I:Inv X Y U H s)(mu:Fp (H a))(hs:Heap.SameBut a s.heap h')(he:∃ q,h'.get? a=some q) (new:ax X.prog X.w (upd H a ob) h' a ob):
  Inv X Y U (upd H a ob) { s with heap:=h',toks:=t' }:=
 I.write (x:=a) (e:=a) mu (.inl rfl) (λb q hb z=>(hs.2 b hb).trans z) he new
def qG {h':Heap}{kvs:List (Key×V)}{vs:List (Key×Value)}(z:kvs.length<=ce)(hd:(a ==sysModules)=false)(rel:KV kvs vs)(dd:h'.DictOf (aJ P w) a vs):
  ax P w H' h' a (.dK kvs):=⟨z,hd,vs,rel,dd⟩
def tR {Q:JT}(hu:A.units+1<cLine)(I:Inv X Y U H s)(g:EZ H a y v H')(ry:RelV y u)(rv:RelV v r)(h:∀ s',Inv X Y U H' s'->Q () s'):
  wpAny (model X.prog X.w) A (setItem (.ref a) u r) Q E s:=by
 rcases g with⟨kvs,k,e,ey,l,eH⟩|⟨kvs,k,b,e,ey,eb,l,eH⟩
 .subst ey eH;obtain⟨z,hd,vs,rel,dd⟩:=pz I.hok e;have hz:vs.length<=ce:=by rw[<-rel.length];exact z
  have hl:(putK kvs k v).length<=ce:=by have:=dE kvs k v;omega
  refine wpAny_setItem_pairs (hsz:=hz) (kW ry) dd λh' dd' hs=>h _ ?_
  have he:∃ q,h'.get? a=some q:=let⟨q,_,_,hq,_⟩:=dd';⟨q,hq⟩;exact je I (by rw[e];exact True.intro) hs he (qG hl hd (rel.put k rv) dd')
 .subst ey eH;cases(show u=Value.ref b from ry);obtain⟨z,hd,xs,rel,dd⟩:=G1 I.hok e;have hz:xs.length<=ce:=by rw[<-Paired.length rel];exact z
  have hl:(putK kvs k v).length<=ce:=by have:=dE kvs k v;omega
  refine wpAny_setItem_heap (hsz:=hz) (tupleKind_room_in1 hu) (jQ I.hok eb) dd λh' dd' hs=>h _ ?_
  obtain⟨q,es,ep,hq,h2,h3,h4,_,h5⟩:=dd';refine je I (by rw[e];exact True.intro) hs ⟨q,hq⟩ ⟨hl,hd,_,(rel.put k eb rv).keeps λc ys ec=>?_,q,es,ep,hq,h2,h3,h4,h5⟩;rw[ag (GS ec e (λz=>nomatch z))];exact ec
end
section
variable {X:Cx}{Y:JV}{U:St}{H:Hp}{s:Shared}{a:Addr}{kvs:List (Key×V)}{k:Key}{u:Value}{A:Around}{E:JU}
end
def pH {X:Cx}{a:Addr}(I:Inv X Y U H s)(g:t5 H a y o):s.TypeIs (.ref a) "dict":=by
 rcases g with⟨kvs,k,e,_,_⟩|⟨kvs,k,b,e,_,_,_⟩
 .obtain⟨_,_,vs,_,dd⟩:=iQ I.hok e;exact dd.typeIs
 .obtain⟨_,_,xs,_,dd⟩:=nD I.hok e;exact dd.typeIs
section
variable {X:Cx}{o i e value:Expr}{pos pos' tpos:Pos}{td ty tv:TE}
end
def nQ (h:Heap)(hb:sysModules<h.objs.size):ax P w H (h.push { cls:=.type "dict",data:=.dict #[] }) h.objs.size (.dK []):=
 ⟨Nat.zero_le _,beq_eq_false_iff_ne.mpr (Ne.symm (pi hb)),[],.nil,Heap.DictOf.new h⟩
abbrev C4:TE:=λ_ H Q=>∀ p,H p=none->Q (.ref p) (upd H p (.dK []))
section
variable {X:Cx}{pos:Pos}
def v8:PE X (.Dict [] [] pos) C4:=λY s U H Q I h=>
 wpAny_Dict_empty ⟨.ref s.heap.objs.size,_,I.laid (a:=s.heap.objs.size) (o:=.dK []) (t':=s.toks) (λ_ _ q=>tz _ q) (re _) (nQ s.heap I.big),rfl,h _ (I.hok.fresh (re _))⟩
end
section
variable {X:Cx}{Y:JV}{U:St}{H:Hp}{s:Shared}{a:Addr}{y d:V}{u r:Value}{o:Option V}{A:Around}{E:JU}
end
section
variable {X:Cx}{o e f:Expr}{apos cpos:Pos}{td ty tx:TE}
end
section
variable {X:Cx}{Y:JV}{U:St}{H:Hp}{s:Shared}{a:Addr}{kvs:List (Key×V)}{A:Around}{E:JU}
end
section
variable {X:Cx}{Y:JV}{U:St}{H:Hp}{s:Shared}{a:Addr}{y:V}{u:Value}{A:Around}{E:JU}
end
end L2
namespace Att
open PySem PySem.W PySem.Calls PyProof.Rows
variable {P:Params}
def ja {h:Heap}:∀ (ns:List Int) (vs:List Value),WellAll P h vs (ns.map WData.int)->IntsAre vs ns:=by
 intro ns
 induction ns with
 |nil=>
  intro vs w;rw[List.map_nil]at w;cases w;exact .nil
 |cons n ns ih=>
  intro vs w;rw[map_cons]at w;cases w with
  |cons a b=>
   cases a;exact .cons _ _ (ih _ b)
variable {l:OpenLaw}
def tX {n:Nat}(hn:l.most=some n){h:Heap}{args:List WData}{vals:List Value}
  (hpre:l.row.toRowW.claim.pre args=true) (hwl:WellAll P h vals args):
  ∃ a vs ns,vals=[Value.ref a]/\args=[WData.list (ns.map WData.int)]/\h.get? a=some { cls:=.type "list",data:=.seq vs.toArray }/\IntsAre vs ns/\ns.length<=n:=by
 have hsh:WShape.hasAll [] args [.list .int]=true:=(pre_splitW hpre).1;have hc:l.pre.holds [] { args:=args }=true:=(pre_splitW hpre).2;obtain⟨d,r,rfl,h1,h2⟩:=hasAllW_cons hsh;obtain rfl:=hasAllW_nil h2;obtain⟨xs,rfl,h3⟩:=hasW_list h1;obtain⟨ns,rfl⟩:=items_int h3;have hlen:ns.length<=n:=by
  unfold OpenLaw.pre at hc;have h4:(WTm.not (.lt (.lit (.int (n:Int))) (.len (.arg 0)))).holds [] { args:=[.list (ns.map .int)] }=true:=by
   have h4:=(holds_andW hc).1;rw[hn]at h4;exact h4
  have h5:=condW_of h4 (w_not (w_lt w_lit (w_len_list (w_arg rfl))));rw[cr]at h5;refine Nat.le_of_not_lt λq=>?_
  have q':(n:Int)<((ns.length:Nat):Int):=by omega
  first
   |(rw[decide_eq_true q']at h5;exact absurd h5 (by decide))
   |(simp at h5;omega)
 cases hwl with
 |cons w1 w2=>
  cases w2;cases w1 with
  |list ho hall=>exact⟨_,_,ns,rfl,rfl,ho,ja ns _ hall,hlen⟩
def tH (l:OpenLaw)(args:List WData):l.row.toRowW.claim.post args (.bool true) args=true:=
 postW_of (r:=l.row.toRowW) (X:=(true ==true))
  (show WShape.has [] (.bool true) .bool=true by first|rfl|decide|simp[WShape.has,WShape.arms,WShape.armsAll])
  (show(WTm.eq .res (.lit (.bool true))).value [] { args:=args,res:=some (.bool true),after:=args }=some (.bool (true ==true)) from w_eq_bool (w_res rfl) w_lit) rfl
def pq {n:Nat}{q:Program}{loose:List Str}{XP:(Str->Option Value)->Heap->Prop}{YP:World->Heap->Prop}{d:DefRec}
  (hn:l.most=some n) (hdf:d.params.defaults=[])
  (call:∀ (w:World) (s₀ s₁:Shared) (mg mb:JW) (fa:Addr) (o:Obj) (pm cd doc:Value) (a:Addr) (vs:List Value) (ns:List Int),
   Ground q loose [] XP w s₀ mg mb s₁.heap->YP w s₁.heap->
   s₁.heap.get? fa=some o->o.data=.func (docDef d.name d.params d.body d.scope pm cd doc)->s₁.heap.CodeRec cd d.name->mg d.name=some (.ref fa)->
   s₁.heap.get? a=some { cls:=.type "list",data:=.seq vs.toArray }->IntsAre vs ns->ns.length<=n->s₁.gens=#[]->
   codeAny (model l.prog w) callerA (.call (.ref fa) ⟨[.ref a],[]⟩) (λr s'=>r=.ok (.ret (.bool true))/\OldK s₁.heap s'.heap/\s'.os=s₁.os/\AllBare s'.gens) s₁):
  WalkO q loose XP YP l.row.toRowW d [] (λf vs=>PySem.call f vs):=by
 intro w s₀ s₁ mg mb G Y fa o pm cd doc dV kV ho hd hcd hD hmg hg args vals as hpre hlay hrd hwl hlo;obtain rfl:dV=.none:=Dflts.none hD hdf;obtain rfl:kV=.none:=Dflts.noKw hD;obtain⟨a,vs,ns,rfl,rfl,hobj,hints,hlen⟩:=tX hn hpre hwl;refine enter_call (codeAny_mono (call w s₀ s₁ mg mb fa o pm cd doc a vs ns G Y ho (fd_plain hd) hcd hmg hobj hints hlen hg) λr s' hq=>?_);obtain⟨rfl,h2,h3,h4⟩:=hq;exact⟨.inl ⟨.bool true,.bool true,[],rfl,λ_=>rfl,.bool true,tH l _,λ_=>⟨List.Pairwise.nil,λ_ hm=>(nomatch hm)⟩⟩,h2,h3,h4⟩
section
variable {prog:Program}{w:World}{A:Around}{E:JU}{s:Shared}{K:Frag}
end
end Att
namespace L2
open PySem PySem.Spec PyProof.Rows
def kN:∀ {vs:List Value}{ns:List Int},IntsAre vs ns->Vals (ns.map V.int) vs
 |_,_,.nil=>.nil
 |_,_,.cons n t h=>.cons ⟨t,rfl⟩ (kN h)
abbrev Co (H:Hp):Prop:=∀ b,H b=none\/∃ o xs,H b=some (.ji o (.lst xs))
def wV {P:Program}{w:World}{K:W.Frag}{mg mb:JW}{CX:su}{k:Nat}{fa a:Addr}{fd:FuncData}{x:Str}{sp:Sp}{s₁:Shared}{vs:List Value}{ns:List Int}
  (KX:K.In s₁.heap) (hns:s₁.heap.Ns mainGlobals mg) (hb:s₁.heap.Ns builtinsNs mb) (hbb:∀ x:Str,x≠"__name__"->mb x=bootBuiltins x) (hlim:s₁.heap.NoLimit) (hg:s₁.gens=#[])
  (ha:s₁.heap.get? a=some { cls:=.type "list",data:=.seq vs.toArray }) (hi:IntsAre vs ns) (hl:ns.length<=ce) (hr:bp k callerA)
  (F:∀ base:Heap,K.In base->base.Ns mainGlobals mg->cT P w K mg base CX k fa fd [x] sp) (hbind:∀ (s:Shared) (u:Value),BindsTo s fd ⟨[u],[]⟩ [(x,u)])
  (hsp:∀ H:Hp,Co H->aP K H a (ns.map V.int)->sp [.ref a] H (λv _=>v=.bl true) λ_ _=>False)
  (hCX:∀ H e s',CX [] H s₁ (λ_ _=>False) e s'->False):
  codeAny (model P w) callerA (.call (.ref fa) ⟨[.ref a],[]⟩) (λr s'=>r=.ok (.ret (.bool true))/\OldK s₁.heap s'.heap/\s'.os=s₁.os/\AllBare s'.gens) s₁:=by
 have rv:=kN hi;have lenV:=hi.length;have core:∀ H:Hp,Co H->aP K H a (ns.map V.int)->fq P w H s₁.heap->(∀ b,H b≠none->b=a)->(H a≠none->K.lookup a=none)->
   codeAny (model P w) callerA (.call (.ref fa) ⟨[.ref a],[]⟩) (λr s'=>r=.ok (.ret (.bool true))/\OldK s₁.heap s'.heap/\s'.os=s₁.os/\AllBare s'.gens) s₁:=by
  intro H hO hS hok hA hK;have base_of:∀ {b:Addr}{o:Obj},s₁.heap.get? b=some o->H b=none->(lz s₁.heap H).get? b=some o:=λe n=>yk e n
  have noA:∀ {b:Addr}{o:Obj}{es:Array DictEntry}{ep:Nat},s₁.heap.get? b=some o->o.data=.dict es ep->H b=none:=λ{b o es ep} e d=>by
   cases q:H b with
   |none=>rfl
   |some u=>
    have e':b=a:=hA b (by rw[q];simp);subst e';rw[ha]at e;cases e;have d':Data.seq vs.toArray _=Data.dict es ep:=d;cases d'
  have nsK:∀ {b:Addr}{m:JW},s₁.heap.Ns b m->(lz s₁.heap H).Ns b m:=λ{b m} ⟨o,es,ep,e,d,r⟩=>⟨o,es,ep,base_of e (noA e d),d,r⟩
  have hKb:K.In (lz s₁.heap H):=λb o e=>base_of (KX b o e) (by
   cases q:H b with
   |none=>rfl
   |some u=>
    have e':b=a:=hA b (by rw[q];simp);subst e';rw[hK (by rw[q];simp)]at e;cases e)
  have hM:Mod K mg (lz s₁.heap H):=⟨hKb,nsK hns,⟨mb,nsK hb,hbb⟩,let⟨mc,h1,h2⟩:=hlim;⟨mc,nsK h1,h2⟩⟩;have e0:qM P w K mg (lz s₁.heap H) callerA [] s₁ H:=⟨rfl,hM,λb o e=>A1 e,Nat.le_of_eq (uw _ _),trivial,λb hb=>absurd (show b ∈ ([]:List Addr) from hb) (by simp),hok,.of_eq hg⟩;refine codeAny_mono ((F _ hKb (nsK hns)).run callerA [] s₁ H ⟨[.ref a],[]⟩ [.ref a] [.ref a] _ _ hr e0 (hbind s₁ (.ref a)) (.cons rfl .nil) (hsp H hO hS)) λr s' h=>?_
  cases r with
  |error e=>exact(hCX H e s' h).elim
  |ok fl=>
   cases fl with
   |next=>exact False.elim h
   |brk=>exact False.elim h
   |cont=>exact False.elim h
   |ret u=>
    obtain⟨v,H',os,bare,un,hok',r',q⟩:=h;have q':v=.bl true:=q;subst q';obtain rfl:u=Value.bool true:=r';refine⟨rfl,OldK.of_keep λb o e=>?_,os,bare⟩;cases q:H b with
    |none=>exact un.keep b o e q (by intro z;exact absurd (show b ∈ ([]:List Addr) from z) (by simp)) (by simp)
    |some u=>
     rcases hO b with z|⟨ob,xs,z⟩
     .rw[q]at z;cases z
     .have z2:=un.frzs b ob _ z;obtain⟨e1,_⟩:=hok b _ z;obtain⟨e2,_⟩:=hok' b _ z2;rw[e]at e1;cases e1;exact e2
 cases hk:K.lookup a with
 |some o=>
  have e:=KX a o hk;rw[ha]at e;cases e;refine core (λ_=>none) (λ_=>.inl rfl) (.inr ⟨_,vs.toArray,_,hk,rfl,rfl,rfl,by rw[im,lenV];exact hl,by simpa using rv⟩) (λb u z=>by have z':(none:Option HO)=some u:=z;cases z') (λb z=>absurd rfl z) λz=>absurd rfl z
 |none=>
  refine core (λb=>if b=a then some (.ji { cls:=.type "list",data:=.seq vs.toArray } (.lst (ns.map V.int))) else none) (λb=>?_) (.inl (.inr ⟨{ cls:=.type "list",data:=.seq vs.toArray },if_pos rfl⟩)) (λb u z=>?_) (λb z=>?_) λ_=>hk
  .by_cases hb:b=a
   .exact .inr ⟨_,_,if_pos hb⟩
   .exact .inl (if_neg hb)
  .by_cases hb:b=a
   .have z':=(if_pos hb).symm.trans z;cases z';subst hb;exact⟨ha,by rw[cr];exact hl,vs,_,rv,ha⟩
   .have z':=(if_neg hb).symm.trans z;cases z'
  .by_cases hb:b=a
   .exact hb
   .exact absurd (if_neg hb) z
def yS {l:W.OpenLaw}{n k:Nat}{q:Program}{loose:List Str}{XP:(Str->Option Value)->Heap->Prop}{YP:World->Heap->Prop}{d:DefRec}{K:Params->W.Frag}{CX:World->su}{sp:World->Sp}{x:Str}
  (hn:l.most=some n) (hn2:n<=ce) (hdf:d.params.defaults=[]) (hr:bp k callerA)
  (hY:∀ (w:World) (h:Heap),YP w h->(K w.params).In h)
  (F:∀ (w:World) (mg:JW) (fa:Addr) (h:Heap),(K w.params).In h->h.Ns mainGlobals mg->mg d.name=some (.ref fa)->
   ∃ fd:FuncData,(∀ (s:Shared) (u:Value),BindsTo s fd ⟨[u],[]⟩ [(x,u)])/\
    ∀ base:Heap,(K w.params).In base->base.Ns mainGlobals mg->cT l.prog w (K w.params) mg base (CX w) k fa fd [x] (sp w))
  (hsp:∀ (w:World) (H:Hp) (a:Addr) (ns:List Int),ns.length<=n->Co H->aP (K w.params) H a (ns.map V.int)->sp w [.ref a] H (λv _=>v=.bl true) λ_ _=>False)
  (hCX:∀ (w:World) (H:Hp) (s:Shared) (e:Value) (s':Shared),CX w [] H s (λ_ _=>False) e s'->False):
  W.WalkO q loose XP YP l.row.toRowW d [] (λf vs=>PySem.call f vs):=by
 refine Att.pq hn hdf λw s₀ s₁ mg mb fa o pm cd doc a vs ns G Y ho hd hcd hmg hobj hints hlen hg=>?_
 have KX:=hY w _ Y;obtain⟨fd,hb,hF⟩:=F w mg fa _ KX G.T.g hmg;exact wV KX G.T.g G.T.b G.T.builtins G.T.nolimit hg hobj hints (Nat.le_trans hlen hn2) hr hF hb (λH hO hS=>hsp w H a ns hlen hO hS) λH e s'=>hCX w H s₁ e s'
section
variable {P:Program}{w:World}{K:W.Frag}{mg:JW}{base:Heap}
end
def cS {n:Nat}(h:n<=1000):n<ce:=Nat.lt_of_le_of_lt h (by decide)
section
variable {X:Cx}
end
end L2
namespace L2
open PySem PySem.Spec PySem.W PyProof.Rows PySem.Builtin PySem.Builtin.ObjectAttr
variable {rs:List Addr}
section
variable {prog:Program}{w:World}{A:Around}{E:JU}{s:Shared}{K:W.Frag}{x C:Addr}{ox od:Obj}{name:Str}{expr:Bool}{v:Value}{Q:JU}
def nj:builtinKind "BaseException.__getattribute__"=some .slot:=by decide+kernel
def kY:splitId "BaseException.__getattribute__"=some ("BaseException","__getattribute__"):=by decide+kernel
def AD (X:K.In s.heap)(I:W.InstAt s.heap x ox C (some od))(hga:W.findIn K (.ref C) "__getattribute__"=some (some (.builtin "BaseException.__getattribute__"))) (hgn:W.findIn K (.ref C) "__getattr__"=some none)
  (hb:W.mroIn K C (.type "BaseException")=some true) (hf:W.findObj K C (some od) name=some (.value v)) (hh:W.handedIn v=true) (h:Q v { s with toks:=s.toks+1 }):
  wpAny (model prog w) A (getAttr (.ref x) name expr) Q E s:=by
 obtain⟨hp,g,d,t,os⟩:=s;have L0:=I.type (M:=model prog w);have L1:=looks_findIn (M:=model prog w) X hga;have L2':=looks_findIn (M:=model prog w) X hgn;have L3:=looks_find (M:=model prog w) X I hf;have L4:Looks (model prog w) hp (isInstance (.ref x) (.type "BaseException")) true:=I.type.andThen (looks_mroIn X hb);unfold getAttr getAttrBy;refine am (wpAny_mkText (bi (am (L0.at (am (L1.at ?_))))));have e1:(Value.builtin "BaseException.__getattribute__" ==Value.builtin "object.__getattribute__")=false:=by decide+kernel
 dsimp only;rw[e1,Bool.and_false];show wpAny _ _ (getAttrByItsOwn _ _ _ _ _ _) _ _ _;unfold getAttrByItsOwn hookBefore;refine am (L2'.at ?_);refine am (wpAny_attempt (bi ?_));have e2:(expr&&onTheHeap (Value.builtin "BaseException.__getattribute__"))=false:=by cases expr<;>rfl
 unfold callGetattribute;rw[e2];show wpAny _ _ (boundAndCalled _ _ _) _ _ _;unfold boundAndCalled;rw[PySem.F.attr_ValueError.ga.bind];refine am (ap (wpAny_call (codeAny_call_builtin PySem.F.attr_ValueError.ga.plain PySem.F.entry_bexc_ga ?_)));refine @check_slot (model prog w) _ _ _ "BaseException.__getattribute__" "BaseException" "__getattribute__" (.ref x) [.str name t] [] _ nj kY L4 (PySem.F.args_bexc_ga (.ref x) (.str name t)) ?_;unfold Builtin.«object.__getattribute__»;refine am (ap (am (ap (am (L0.at (am (L3.at ?_)))))));refine ap ?_;show wpAny _ _ (handedOut v) _ _ _;rw[handedOut_of hh];exact ap h
abbrev vM:Value->Bool
 | .ref _=>true
 |_=>false
abbrev bz:List Value:=[.type "ValueError",.type "Exception",.type "BaseException",.type "object"]
abbrev dh (l:List Value):Bool:=l.dropWhile vM ==bz
def dc:∀ {l:List Value},dh l=true->∃ rs:List Addr,l=rs.map Value.ref++bz
 | [],e=>by cases e
 |c::r,e=>by
  by_cases h:vM c=true
  .have e':dh r=true:=by
    unfold dh at e⊢;rw[List.dropWhile_cons_of_pos h]at e;exact e
   obtain⟨rs,q⟩:=dc e';cases c with
   |ref a=>exact⟨a::rs,by rw[q];rfl⟩
   |_=>cases h
  .unfold dh at e;rw[List.dropWhile_cons_of_neg h]at e;exact⟨[],beq_iff_eq.mp e⟩
def jS (self:Value):∀ rs:List Addr,refuseLoop self "__setattr__" (rs.map Value.ref++bz)=pure ()
 | []=>PySem.F.store_ValueError.passes self
 |a::r=>by rw[map_cons,cons_append,refuseLoop_ref];exact jS self r
structure bS (K:W.Frag) (C:Addr):Prop where
 mt:W.typeIn K (.ref C)=some (.type "type")
 ov:(W.clsIn K C).any (λcd=>dh cd.mro)=true
 hd:W.hasDictIn K C=true
 ga:W.findIn K (.ref C) "__getattribute__"=some (some (.builtin "BaseException.__getattribute__"))
 gn:W.findIn K (.ref C) "__getattr__"=some none
 sa:W.findIn K (.ref C) "__setattr__"=some (some (.builtin "object.__setattr__"))
def bS.mro (c:bS K C):∃ (cd:ClassData) (rs:List Addr),W.clsIn K C=some cd/\cd.mro=rs.map Value.ref++bz:=by
 obtain⟨cd,h1,h2⟩:=W.any_some c.ov;obtain⟨rs,h3⟩:=dc h2;exact⟨cd,rs,h1,h3⟩
def nr (h:bz.contains v=true):(rs.map Value.ref++bz).contains v=true:=by
 rw[List.contains_eq_mem,decide_eq_true_eq]at h⊢;exact io _ h
def sg:(rs.map Value.ref++bz).isEmpty=false:=by cases rs<;>rfl
def bS.sub (c:bS K C)(h:bz.contains v=true):W.mroIn K C v=some true:=by
 obtain⟨cd,rs,h1,h2⟩:=c.mro;unfold W.mroIn;rw[h1,Option.bind_some,h2,if_neg (by rw[sg];decide),nr h]
variable {R:Result->Shared->Prop}
def oo {tk:Tok}{odo:Option Obj}(X:K.In s.heap)(I:W.InstAt s.heap x ox C odo)(c:bS K C)(ht:W.findIn K (.ref C) name=some none)
  (h:wpAny (model prog w) A.in1 (storeInOwnDict (.ref x) (.ref C) (.str name tk) name v false)
   (λfin s'=>match fin with| .done f=>R (.ok f) s'| .again c'=>c'.quiet=true/\codeAny (model prog w) A c' R s') (λe s'=>R (.error e) s') s):
  codeAny (model prog w) A (.call (.builtin "object.__setattr__") ⟨[.ref x,.str name tk,v],[]⟩) R s:=by
 have SF:=PySem.F.store_object;obtain⟨cd,rs,hc,hm⟩:=c.mro;have sub:Looks (model prog w) s.heap (isInstance (.ref x) (.type "object")) true:=I.type.andThen (looks_mroIn X (c.sub (by decide+kernel)));refine codeAny_call_builtin SF.slot.plain SF.entry (@check_slot (model prog w) _ _ s "object.__setattr__" "object" "__setattr__" (.ref x) [.str name tk,v] [] _ SF.kind SF.split sub (SF.args (.ref x) (.str name tk) v) ?_);have hl:Looks (model prog w) s.heap (mroOf (.ref C)) cd.mro:=(looks_clsIn X hc).andThen .now;rw[osa_eq,refuse_eq];refine am (am (I.type.here (am (hl.here ?_))));rw[hm,jS];refine ap (am (I.type.here (am ((looks_findIn X ht).here (am (ap ?_))))));exact h
end
variable {Q:JU}{u:Value}
section
variable {X:Cx}{Y:JV}{U:St}{H:Hp}{s:Shared}{a C dx:Addr}{fs:List (Str×V)}{f:Str}{v:V}{A:Around}{E:JU}{fr:Bool}
def kB {b:Bool}(I:Inv X Y U H s)(e:H a=some (.exc C (some dx) fs fr))(c:bS X.K C)(n:dD X.K C f)(l:fs.lookup f=some v)
  (h:∀ u s',Inv X Y U H s'->RelV v u->Q u s'):wpAny (model X.prog X.w) A (getAttr (.ref a) f b) Q E s:=by
 obtain⟨⟨vs,ho,_⟩,z⟩:=I.hok a _ e;rcases z with⟨z,_⟩|⟨d,ed,_,_,_,mA,hn,r,_⟩
 .cases z
 cases ed;obtain⟨u,hu,ru⟩:=cV.some_of (v:=v) (o:=mA f) (by rw[<-l];exact r f);obtain⟨od,hod,hl⟩:=gK hn;refine AD (ox:={ cls:=.ref C,dict:=some dx,data:=.fields vs }) (od:=od) I.bw ⟨ho,rfl,rfl,hod⟩ c.ga c.gn (c.sub (by decide+kernel)) (W.findObj_own c.hd n rfl (by rw[hl,hu])) (kE ru) (h u _ (I.tok _) ru)
def jy {y:V}{Q:JT}(I:Inv X Y U H s)(e:H a=some (.exc C (some dx) fs fr))(c:bS X.K C)(n:dD X.K C f)(hl:fs.length<1000)(ry:RelV y u)
  (h:∀ s',Inv X Y U (upd H a (.exc C (some dx) (cw f y fs) fr)) s'->Q () s'):wpAny (model X.prog X.w) A (setAttr (.ref a) f u) Q E s:=by
 obtain⟨⟨vs,ho,zz⟩,z⟩:=id (I.hok a _ e);rcases z with⟨z,_⟩|⟨d,ed,hown,_,hne,mA,hn,r,wi⟩
 .cases z
 cases ed;obtain⟨od,hod,hlk⟩:=gK hn;have hz:(fs.map (·.1)).length<=ce:=by rw[cr,sizeLine_eq];omega
 have J:W.InstAt s.heap a { cls:=.ref C,dict:=some dx,data:=.fields vs } C (some od):=⟨ho,rfl,rfl,hod⟩;refine W.set_plain I.bw J c.sa (oo (s:={ s with toks:=s.toks+1 }) I.bw J c n ?_);obtain⟨cd,hc,hd'⟩:=W.any_some c.hd;refine am (ap (am (am (wpAny_loadPart ho (am (W.Looks.here (s:={ s with toks:=s.toks+1 }) (W.looks_clsIn I.bw hc) ?_))))));rw[hd'];refine ap (a:=some dx) (am (ap (am ?_)));refine wpAny_nsSet1 (s:={ s with toks:=s.toks+1 }) hn λh' hn2 hs2=>?_
 obtain⟨oD,esD,epD,hoD,hdD,hcD⟩:=hn2.count (PySem.Within.cons f u wi);refine am (wpAny_lookBehind hoD (by rw[hdD];exact pastItsLine_dict (Nat.le_trans hcD (by rw[length_cons];omega))) ?_);refine ap (h _ ?_);refine I.write (x:=a) (e:=dx) (by rw[e];exact True.intro) (.inr hown) (λb q hb z=>(hs2.2 b hb).trans z) ⟨oD,hoD⟩ ?_;refine⟨⟨vs,(hs2.2 _ (Ne.symm hne)).trans ho,zz⟩,.inr ⟨dx,rfl,by rw[ag hne];exact hown,?_,hne,_,hn2,λg=>?_,λg hg=>?_⟩⟩
 .have:=dY f y fs;omega
 .show cV ((cw f y fs).lookup g) (if g=f then some u else mA g);rw[dZ]
  by_cases q:g=f
  .rw[if_pos q,if_pos q];exact ry
  .rw[if_neg q,if_neg q];exact r g
 .by_cases q:g=f
  .rw[q];exact(cE f y fs).1
  .refine(cE f y fs).2 g (wi g λz=>hg ?_);show(if g=f then some u else mA g)=none;rw[if_neg q];exact z
def jw {y:V}{Q:JT}(I:Inv X Y U H s)(e:H a=some (.exc C none fs fr))(c:bS X.K C)(n:dD X.K C f)(ry:RelV y u)
  (h:∀ d s',H d=none->Inv X Y U (upd (upd H d (.own a)) a (.exc C (some d) [(f,y)] fr)) s'->Q () s'):wpAny (model X.prog X.w) A (setAttr (.ref a) f u) Q E s:=by
 obtain⟨⟨vs,ho,zz⟩,z⟩:=id (I.hok a _ e);have hfs:fs=[]:=by
  rcases z with⟨_,z⟩|⟨d,ed,_⟩
  .exact z
  .cases ed
 subst hfs;have J:W.InstAt s.heap a { cls:=.ref C,dict:=none,data:=.fields vs } C none:=⟨ho,rfl,rfl,True.intro⟩;refine W.set_plain I.bw J c.sa (oo (s:={ s with toks:=s.toks+1 }) I.bw J c n ?_);obtain⟨cd,hc,hd'⟩:=W.any_some c.hd;refine am (ap (am (am (wpAny_loadPart ho (am (W.Looks.here (s:={ s with toks:=s.toks+1 }) (W.looks_clsIn I.bw hc) ?_))))));rw[hd'];have hlt:=u8 ho;have hxs:a≠s.heap.objs.size:=pi hlt;have ho1:(s.heap.push { cls:=.type "dict",data:=.dict #[] }).get? a=some { cls:=.ref C,dict:=none,data:=.fields vs }:=tz _ ho;refine am (wpAny_alloc' ?_);refine am (wpAny_update' ho1 ?_);refine ap ?_;have hgd:((s.heap.push { cls:=.type "dict",data:=.dict #[] }).update a λo=>{ o with dict:=some s.heap.objs.size }).get? s.heap.objs.size=some { cls:=.type "dict",data:=.dict #[] }:=
  (Heap.get?_update_ne _ _ _ _ hxs.symm).trans (Heap.get?_push_at rfl rfl)
 have hga:((s.heap.push { cls:=.type "dict",data:=.dict #[] }).update a λo=>{ o with dict:=some s.heap.objs.size }).get? a=some { cls:=.ref C,dict:=some s.heap.objs.size,data:=.fields vs }:=
  Heap.get?_update_self _ ho1 rfl
 have hnd:((s.heap.push { cls:=.type "dict",data:=.dict #[] }).update a λo=>{ o with dict:=some s.heap.objs.size }).Ns s.heap.objs.size (λ_=>none):=
  ⟨_,#[],_,hgd,rfl,λe he=>absurd he (by simp),λ_=>rfl⟩
 show wpAny _ _ (storeInDict s.heap.objs.size (.str f _) f u) _ _ _;unfold storeInDict newKeyGuard;refine am (ap (am (wpAny_nsSet1 (Heap.Ns1.of_empty hnd) λh' hn2 hs2=>?_)));obtain⟨oD,esD,epD,hoD,hdD,hcD⟩:=hn2.count (PySem.Within.cons f u PySem.Within.nil);refine am (wpAny_lookBehind hoD (by rw[hdD];exact pastItsLine_dict (Nat.le_trans hcD (by rw[length_cons,length_nil,sizeLine_eq];omega))) ?_);have hd0:H s.heap.objs.size=none:=I.hok.fresh (re _);refine ap (h s.heap.objs.size _ hd0 ?_);have e':upd H s.heap.objs.size (.own a) a=some (.exc C none [] fr):=by rw[ag hxs];exact e
 have I1:Inv X Y U (upd H s.heap.objs.size (.own a)) { s with heap:=s.heap.push { cls:=.type "dict",data:=.dict #[] },toks:=s.toks+1 }:=
  I.laid (a:=s.heap.objs.size) (o:=.own a) (t':=s.toks+1) (λb u q=>tz _ q) (re _) ⟨_,ul s.heap rfl⟩
 have I2:=I1.write (x:=a) (e:=a) (o:=.exc C (some s.heap.objs.size) [] fr) (t':=s.toks+1) (h':=(s.heap.push { cls:=.type "dict",data:=.dict #[] }).update a λo=>{ o with dict:=some s.heap.objs.size })
  (by rw[e'];exact True.intro) (.inl rfl) (λb q hb z=>(Heap.get?_update_ne _ _ _ _ hb).trans z) ⟨_,hga⟩
  ⟨⟨vs,hga,zz⟩,.inr ⟨_,rfl,by rw[ag hxs.symm,ar],Nat.zero_le _,hxs.symm,_,Heap.Ns1.of_empty hnd,λ_=>True.intro,λy hy=>absurd rfl hy⟩⟩
 have ga':h'.get? a=some { cls:=.ref C,dict:=some s.heap.objs.size,data:=.fields vs }:=(hs2.2 a hxs).trans hga;have I3:=I2.write (x:=a) (e:=s.heap.objs.size) (o:=.exc C (some s.heap.objs.size) [(f,y)] fr) (t':=s.toks+1+1) (h':=h') (by rw[ar];exact True.intro) (.inr (by rw[ag hxs.symm,ar]))
  (λb q hb z=>(hs2.2 b hb).trans z) ⟨oD,hoD⟩
  ⟨⟨vs,ga',zz⟩,.inr ⟨_,rfl,by rw[ag hxs.symm,ag hxs.symm,ar],by show 1<=1000;decide,hxs.symm,_,hn2,λg=>?_,λg hg=>?_⟩⟩
 .rw[AS]at I3;exact I3
 .show cV (List.lookup g [(f,y)]) (if g=f then some u else none)
  by_cases q:g=f
  .have hb:(g ==f)=true:=beq_iff_eq.mpr q;simp only[List.lookup,hb,if_pos q];exact ry
  .have hb:(g ==f)=false:=beq_eq_false_iff_ne.mpr q;simp only[List.lookup,hb,if_neg q];exact True.intro
 .by_cases q:g=f
  .rw[q];simp
  .exact absurd (show(if g=f then some u else none)=none by rw[if_neg q]) hg
end
section
variable {X:Cx}{Y:JV}{U:St}{H:Hp}{s:Shared}{a C:Addr}{dx:Option Addr}{fs:List (Str×V)}{f:Str}{v:V}{A:Around}{E:JU}{fr:Bool}
def Inv.fields {vs':Array Value}{h':Heap}{t':Nat}(I:Inv X Y U H s)(e:H a=some (.exc C dx fs fr))(hs:vs'.size=6)(h1:fr=true->vs'[1]? =some Value.none)
  (ha:h'.get? a=some { cls:=.ref C,dict:=dx,data:=.fields vs' }) (k:∀ b u,b≠a->s.heap.get? b=some u->h'.get? b=some u):Inv X Y U H { s with heap:=h',toks:=t' }:=by
 have I2:=I.write (x:=a) (e:=a) (o:=.exc C dx fs fr) (t':=t') (h':=h') (by rw[e];exact True.intro) (.inl rfl) k ⟨_,ha⟩ ?_
 .have:upd H a (.exc C dx fs fr)=H:=by
   funext b
   by_cases hb:b=a
   .rw[hb,ar,e]
   .rw[ag hb]
  rw[this]at I2;exact I2
 .obtain⟨_,z⟩:=id (I.hok a _ e);refine⟨⟨vs',ha,hs,h1⟩,?_⟩;rcases z with z|⟨d,ed,d1,z1,ne,mA,⟨od,es,ep,e2,c⟩,r⟩
  .exact .inl z
  .exact .inr ⟨d,ed,by rw[ag ne];exact d1,z1,ne,mA,⟨od,es,ep,k _ _ ne e2,c⟩,r⟩
def jo {R:Result->Shared->Prop}(I:Inv X Y U H s)(e:H a=some (.exc C dx fs fr))(c:bS X.K C)
  (h:∀ s',Inv X Y U H s'->R (.ok (.ret .none)) s'):codeAny (model X.prog X.w) A (.call (.builtin "ValueError.__init__") ⟨[.ref a,u],[]⟩) R s:=by
 have F:=PySem.F.excCall_ValueError;obtain⟨⟨vs,ho,hsz,h1⟩,z⟩:=id (I.hok a _ e);have L4:Looks (model X.prog X.w) s.heap (isInstance (.ref a) (.type "ValueError")) true:=(show Looks (model X.prog X.w) s.heap (typeOf (.ref a)) (.ref C) from(Looks.ld ho).andThen .now).andThen (looks_mroIn I.bw (c.sub (by decide+kernel)));refine codeAny_call_builtin F.init.plain F.initEntry ?_;simp only[checkBuiltinCall,F.initKind,F.initSplit,F.initRow];refine am (L4.here ?_);simp only[Bool.not_true,Bool.false_eq_true,if_false];have hshort:("ValueError" != "*")=true:=by decide
 have h0:∃ a0,vs[0]? =some a0:=⟨_,Array.getElem?_eq_getElem nofun⟩;obtain⟨a0,h0⟩:=h0;obtain⟨hp,g,d,t,os⟩:=s;unfold Bind.checkArgs;have hn:Looks (model X.prog X.w) hp (typeOf (.ref a)) (.ref C):=(Looks.ld ho).andThen .now;obtain⟨cd,rs,hcl,_⟩:=c.mro;obtain⟨oc,od,sl,hC⟩:∃ oc od sl,hp.get? C=some ⟨oc,od,.cls cd,sl⟩:=by
  unfold W.clsIn at hcl
  split at hcl
  .rename_i ho';cases hcl;exact⟨_,_,_,I.bw _ _ ho'⟩
  .cases hcl
 repeat(first|with_reducible refine wpAny_load hC ?_|wp_step)
 rw[h0];have ho1:(hp.push { cls:=.type "tuple",data:=.seq #[u] }).get? a=some { cls:=.ref C,dict:=dx,data:=.fields vs }:=tz _ ho;have hq:=Heap.get?_update_self (Obj.mapFields (·.setIfInBounds 0 (.ref hp.objs.size))) ho1 (Obj.isFreed_of_fields (Obj.data_mapFields rfl _));have fin:R (.ok (.ret Value.none)) ⟨(hp.push { cls:=.type "tuple",data:=.seq #[u] }).update a (Obj.mapFields (·.setIfInBounds 0 (.ref hp.objs.size))),g,d,t,os⟩:=by
  refine h _ (I.fields (vs':=vs.setIfInBounds 0 (.ref hp.objs.size)) (t':=t) e (by simpa using hsz) (λz=>?_) hq λb q hb z'=>?_)
  .rw[Array.getElem?_setIfInBounds_ne (by decide)];exact h1 z
  .exact(Heap.get?_update_ne _ _ _ _ hb).trans (tz _ z')
 refine ap (am (wpAny_setField ho1 rfl nofun ?_));cases a0<;>first|exact ap (ap fin)|exact wpAny_letGo (ap fin)
def qI (I:Inv X Y U H s)(e:H a=some (.exc C dx fs fr))(c:bS X.K C)
  (h:∀ s',Inv X Y U H s'->Q .none s'):wpAny (model X.prog X.w) A (call (.builtin "ValueError.__init__") [.ref a,u]) Q E s:=wpAny_call (jo I e c h)
end
abbrev bC (K:W.Frag)(C:Addr):Bool:=match K.lookup C with
 |some ⟨_,_,.cls cd,sl⟩=>!cd.abstract&& !cd.hasDel&&(sl.toList[4]?).join ==some (.builtin "ValueError.__new__")&&dh cd.mro&&cd.mro.contains (.ref C)&&
   W.specialIn K (.ref C) "__call__" ==some (some (.builtin "type.__call__"))&&W.instIn K (.ref C) (.type "type") ==some true
 |_=>false
structure u0 (M:Model) (h:Heap) (C:Addr):Prop where
 obj:∃ oc od cd sl,h.get? C=some ⟨oc,od,.cls cd,sl⟩/\cd.abstract=false/\cd.hasDel=false/\cd.mro.isEmpty=false
 made:W.Looks M h (Bind.madeBy (.ref C)) (some "ValueError.__new__")
 base:W.Looks M h (Bind.staticBase (.ref C)) (.ref C)
 self:W.Looks M h (isSubtype (.ref C) (.ref C)) true
 top:W.Looks M h (isSubtype (.ref C) (.type "ValueError")) true
 no1:W.Looks M h (isSubtype (.ref C) (.type "AttributeError")) false
 no2:W.Looks M h (isSubtype (.ref C) (.type "NameError")) false
 call:W.Looks M h (specialOf (.ref C) "__call__") (some (.builtin "type.__call__"))
 typ:W.Looks M h (isInstance (.ref C) (.type "type")) true
def rB {n:String}(h:bz.contains (.type n)=false):(rs.map Value.ref++bz).contains (.type n)=false:=by
 induction rs with
 |nil=>exact h
 |cons a r ih=>rw[map_cons,cons_append,List.contains_cons,ih];rfl
def kM {K:W.Frag}{M:Model}{h:Heap}(X:K.In h){C:Addr}(e:bC K C=true):u0 M h C:=by
 unfold bC at e
 split at e
 .rename_i oc od cd sl ho;simp only[mo,Bool.not_eq_true',beq_iff_eq]at e;obtain⟨⟨⟨⟨⟨⟨e1,e2⟩,e3⟩,e4⟩,e5⟩,e7⟩,e8⟩:=e;obtain⟨rs,em⟩:=dc e4;have hc:W.clsIn K C=some cd:=by unfold W.clsIn;rw[ho]
  have hm:Looks M h (mroOf (.ref C)) cd.mro:=(looks_clsIn X hc).andThen .now;have ne:cd.mro.isEmpty=false:=by rw[em];exact sg
  obtain⟨c,l,hl⟩:∃ c l,cd.mro=c::l:=by
   cases q:cd.mro with
   |nil=>rw[q]at ne;cases ne
   |cons c l=>exact⟨c,l,rfl⟩
  have made:Looks M h (Bind.madeBy (.ref C)) (some "ValueError.__new__"):=by
   intro A Q E s k q;unfold Bind.madeBy;refine am (hm A _ E s k ?_);rw[hl,forIn_cons];refine am (am (am (am (wpAny_loadPart (k _ _ (X _ _ ho)) (ap ?_)))));dsimp only;rw[<-Array.getElem?_toList,e3];exact ap (ap (ap q))
  have mro:∀ {v b},cd.mro.contains v=b->W.mroIn K C v=some b:=λ{v b} q=>by
   unfold W.mroIn;rw[hc,Option.bind_some,if_neg (by rw[ne];decide),q]
  refine⟨⟨oc,od,cd,sl,X _ _ ho,e1,e2,ne⟩,made,?_,looks_mroIn X (mro e5),looks_mroIn X (mro (by rw[em];exact nr (by decide+kernel))),looks_mroIn X (mro (by rw[em];exact rB (by decide+kernel))),looks_mroIn X (mro (by rw[em];exact rB (by decide+kernel))),looks_specialIn X e7,looks_instIn X e8⟩;intro A Q E s k q;unfold Bind.staticBase;refine am (hm A _ E s k ?_);rw[hl,forIn_cons];exact am (am (am (made A _ E s k (ap (ap (ap q))))))
 .cases e
variable {rest:List Value}
section
variable {prog:Program}{w:World}{A:Around}{K:W.Frag}{C:Addr}{R:Result->Shared->Prop}{h:Heap}{g:Array GenState}{d:Drawn}{t:Nat}{os:OsState}
def Bv (Y:u0 (model prog w) h C)(hz:rest.length<=ce)
  (hq:R (.ok (.ret (.ref (h.objs.size+1)))) ⟨(h.push { cls:=.type "tuple",data:=.seq rest.toArray }).push { cls:=.ref C,data:=.fields #[.ref h.objs.size,.none,.none,.none,.bool false,.none] },g,d,t,os⟩):
  codeAny (model prog w) A (.call (.builtin "ValueError.__new__") ⟨.ref C::rest,[]⟩) R ⟨h,g,d,t,os⟩:=by
 obtain⟨⟨oc,od,cd,sl,hC,e1,e2,e4⟩,made,base,self,top,no1,no2,call,typ⟩:=Y;have F:=PySem.F.excBase_ValueError;have here:Looks (model prog w) h (Bind.madeHere "BaseException.__new__" (.ref C)) ():=base.andThen (made.andThen (Looks.of_pure (by simp only[Option.map_some,F.canon,bne_self_eq_false,Bool.false_eq_true,if_false])));refine codeAny_call_builtin_code (Code.quiet_builtin _ F.quiet) ?_;simp only[checkBuiltinCall,F.newKind,F.newSplit,F.newRow]
 repeat(first|simp only[bne_self_eq_false,Bool.false_eq_true,if_false]|lk)
 refine codeAny_builtinAt F.entry ?_;unfold Builtin.«BaseException.__new__»;refine PySem.wpAt_bind ?_;show PySem.wpAt _ _ _ (stack >>= _) _ _ _;refine PySem.wpAt_bind (PySem.wpAt_stack λp below=>PySem.wpAt_of_wpAny ?_);have hends:=F.ends
 wp_walk
 refine PySem.wpAt_of_wpAny ?_;rw[F.owner]
 repeat(first|simp only[Bool.not_true,Bool.false_eq_true,if_false]|lk)
 rw[if_neg (show ¬ (rest.toArray.size>ce) by rw[im];omega)];unfold newObjAsIs;refine am (wpAny_alloc (ap (am ?_)));show wpAny _ _ (newObjAsIs _ _ _) _ _ _;unfold newObjAsIs classHasDel;refine am (wpAny_alloc (am (am (wpAny_load (tz _ (tz _ hC)) (ap ?_)))));rw[e2];refine ap (ap ?_);show R _ _;rw[Heap.size_push];exact hq
def D4 {fI:Addr}(X:K.In h)(hz:rest.length<=ce)(hm:bC K C=true)(hi:W.findIn K (.ref C) "__init__"=some (some (.ref fI))) (hf:W.typeIn K (.ref fI)=some (.type "function"))
  (hq:codeAny (model prog w) (A.under (.builtin "type.__call__" ⟨.ref C::rest,[]⟩)) (.call (.ref fI) ⟨.ref (h.objs.size+1)::rest,[]⟩) (InitBack (h.objs.size+1) R)
   ⟨(h.push { cls:=.type "tuple",data:=.seq rest.toArray }).push { cls:=.ref C,data:=.fields #[.ref h.objs.size,.none,.none,.none,.bool false,.none] },g,d,t,os⟩):
  codeAny (model prog w) A (.call (.ref C) ⟨rest,[]⟩) R ⟨h,g,d,t,os⟩:=by
 have Y:=kM (M:=model prog w) X hm;have Y':=Y;obtain⟨⟨oc,od,cd,sl,hC,e1,e2,e4⟩,made,base,self,top,no1,no2,call,typ⟩:=Y;refine codeAny_of_tree ?_;show wpAny _ _ (callAny (.ref C) _) _ _ _;refine nd_load hC ?_;show wpAny _ _ (callAny.viaDunder (.ref C) _) _ _ _;unfold callAny.viaDunder;refine am (call.at ?_);dsimp only;rw[tc_bind];refine am (ap (am (ap ?_)));refine ap (a:=Fin.again (.call (.builtin "type.__call__") ⟨.ref C::rest,[]⟩)) (And.intro rfl ?_);refine codeAny_call_builtin_at (Code.quiet_builtin _ (by decide+kernel)) entry_typeCall (check_slot tc_kind tc_split typ (tc_args _ _ _) ?_);unfold Builtin.«type.__call__»;have hmr:Looks (model prog w) h (mroOf (.ref C)) cd.mro:=((Looks.ld (part:=none) hC).andThen .now).andThen .now
 repeat(first|simp only[e4,Bool.false_eq_true,if_false]|with_reducible refine wpAny_call ?_|lk)
 refine Bv Y' hz ?_;have k:∀ b o,h.get? b=some o->((h.push { cls:=.type "tuple",data:=.seq rest.toArray }).push { cls:=.ref C,data:=.fields #[.ref h.objs.size,.none,.none,.none,.bool false,.none] }).get? b=some o:=λb o e=>tz _ (tz _ e)
 have hx:((h.push { cls:=.type "tuple",data:=.seq rest.toArray }).push { cls:=.ref C,data:=.fields #[.ref h.objs.size,.none,.none,.none,.bool false,.none] }).get? (h.objs.size+1)=some { cls:=.ref C,data:=.fields #[.ref h.objs.size,.none,.none,.none,.bool false,.none] }:=by heap_get
 have t1:Looks (model prog w) ((h.push { cls:=.type "tuple",data:=.seq rest.toArray }).push { cls:=.ref C,data:=.fields #[.ref h.objs.size,.none,.none,.none,.bool false,.none] }) (typeOf (.ref (h.objs.size+1))) (.ref C):=(Looks.ld hx).andThen .now;have s1:=self.keeps k;have i1:=(looks_findIn (M:=model prog w) X hi).keeps k;have b1:=(bind_fn (M:=model prog w) X (.ref (h.objs.size+1)) hf).keeps k;unfold isInstance callSpecial? specialOf
 repeat(first|with_reducible refine wpAny_call ?_|lk)
 refine codeAny_mono hq λr s' z=>?_
 rcases r with e|(v|_|_|_)<;>first|exact z|exact z.elim|skip
 obtain⟨rfl,z⟩:=z;exact ap (ap z)
def yJ (X:K.In h)(hz:rest.length<=ce)(hm:bC K C=true)(hi:W.findIn K (.ref C) "__init__"=some (some (.builtin "ValueError.__init__")))
  (hq:codeAny (model prog w) (A.under (.builtin "type.__call__" ⟨.ref C::rest,[]⟩)) (.call (.builtin "ValueError.__init__") ⟨.ref (h.objs.size+1)::rest,[]⟩) (InitBack (h.objs.size+1) R)
   ⟨(h.push { cls:=.type "tuple",data:=.seq rest.toArray }).push { cls:=.ref C,data:=.fields #[.ref h.objs.size,.none,.none,.none,.bool false,.none] },g,d,t,os⟩):
  codeAny (model prog w) A (.call (.ref C) ⟨rest,[]⟩) R ⟨h,g,d,t,os⟩:=by
 have Y:=kM (M:=model prog w) X hm;have Y':=Y;obtain⟨⟨oc,od,cd,sl,hC,e1,e2,e4⟩,made,base,self,top,no1,no2,call,typ⟩:=Y;refine codeAny_of_tree ?_;show wpAny _ _ (callAny (.ref C) _) _ _ _;refine nd_load hC ?_;show wpAny _ _ (callAny.viaDunder (.ref C) _) _ _ _;unfold callAny.viaDunder;refine am (call.at ?_);dsimp only;rw[tc_bind];refine am (ap (am (ap ?_)));refine ap (a:=Fin.again (.call (.builtin "type.__call__") ⟨.ref C::rest,[]⟩)) (And.intro rfl ?_);refine codeAny_call_builtin_at (Code.quiet_builtin _ (by decide+kernel)) entry_typeCall (check_slot tc_kind tc_split typ (tc_args _ _ _) ?_);unfold Builtin.«type.__call__»;have hmr:Looks (model prog w) h (mroOf (.ref C)) cd.mro:=((Looks.ld (part:=none) hC).andThen .now).andThen .now
 repeat(first|simp only[e4,Bool.false_eq_true,if_false]|with_reducible refine wpAny_call ?_|lk)
 refine Bv Y' hz ?_;have k:∀ b o,h.get? b=some o->((h.push { cls:=.type "tuple",data:=.seq rest.toArray }).push { cls:=.ref C,data:=.fields #[.ref h.objs.size,.none,.none,.none,.bool false,.none] }).get? b=some o:=λb o e=>tz _ (tz _ e)
 have hx:((h.push { cls:=.type "tuple",data:=.seq rest.toArray }).push { cls:=.ref C,data:=.fields #[.ref h.objs.size,.none,.none,.none,.bool false,.none] }).get? (h.objs.size+1)=some { cls:=.ref C,data:=.fields #[.ref h.objs.size,.none,.none,.none,.bool false,.none] }:=by heap_get
 have t1:Looks (model prog w) ((h.push { cls:=.type "tuple",data:=.seq rest.toArray }).push { cls:=.ref C,data:=.fields #[.ref h.objs.size,.none,.none,.none,.bool false,.none] }) (typeOf (.ref (h.objs.size+1))) (.ref C):=(Looks.ld hx).andThen .now;have s1:=self.keeps k;have i1:=(looks_findIn (M:=model prog w) X hi).keeps k;have b1:Looks (model prog w) ((h.push { cls:=.type "tuple",data:=.seq rest.toArray }).push { cls:=.ref C,data:=.fields #[.ref h.objs.size,.none,.none,.none,.bool false,.none] }) (bindSpecial (.builtin "ValueError.__init__") (.ref (h.objs.size+1))) (.builtin "ValueError.__init__",[.ref (h.objs.size+1)]):=Looks.of_pure (PySem.F.excCall_ValueError.init.bind _);unfold isInstance callSpecial? specialOf
 repeat(first|with_reducible refine wpAny_call ?_|lk)
 refine codeAny_mono hq λr s' z=>?_
 rcases r with e|(v|_|_|_)<;>first|exact z|exact z.elim|skip
 obtain⟨rfl,z⟩:=z;exact ap (ap z)
end
end L2
namespace L2
open PySem PySem.Spec PySem.W PyProof.Rows
abbrev a6 (e:Addr)(h h':Heap):Prop:=∀ oe vs,h.get? e=some oe->oe.data=.fields vs->∃ vs',h'.get? e=some { oe with data:=.fields vs' }/\vs'.size=vs.size
abbrev Cw (as:List Addr)(h h':Heap):Prop:=∀ b o,b ∉ as->h.get? b=some o->h'.get? b=some o
abbrev ue (h:Heap)(e T:Addr)(fl:Value):Prop:=∃ oe vs oT ts,h.get? e=some oe/\oe.data=.fields vs/\vs[1]? =some (.ref T)/\T≠e/\h.get? T=some oT/\oT.data=.fields ts/\ts[3]? =some fl
def a6.trans {e:Addr}{h h1 h2:Heap}(a:a6 e h h1)(b:a6 e h1 h2):a6 e h h2:=λoe vs x y=>by
 obtain⟨vs1,x1,z1⟩:=a oe vs x y;obtain⟨vs2,x2,z2⟩:=b _ vs1 x1 rfl;exact⟨vs2,x2,z2.trans z1⟩
def a6.same {e:Addr}{h h':Heap}(k:h'.get? e=h.get? e):a6 e h h':=λoe vs x y=>⟨vs,by rw[k,x,<-y],rfl⟩
variable {Q:JT}
section
variable {M:Model}{A:Around}{E:JU}{s:Shared}{base:Heap}{env:Env}{outer:List Env}{L e:Addr}
def kC {oe:Obj}{vs:Array Value}{head:Value}{hadNext:Bool}(hfr:A.frames=some (env::outer))(hl:s.heap.FunFrames base (env::outer))(hf:env.frame=some L)
  (he:s.heap.get? e=some oe) (hd:oe.data=.fields vs) (hsz:1<vs.size)
  (q:∀ h' T,s.heap.objs.size<=T->ue h' e T (rawInt L)->a6 e s.heap h'->(∀ b o,b≠e->s.heap.get? b=some o->∃ sl,h'.get? b=some { o with slots:=sl })->Cw (e::mi (env::outer)) s.heap h'->Q () { s with heap:=h' }):
  wpAny M A (do let a <-frameOf env;let pl <-entryPlaceOf L hadNext;let b <-EntryCells.newEntry head a .none (rawInt L) .none pl;setField (.ref e) 1 b) Q E s:=by
 have hne:e ∉ mi (env::outer):=λhm=>by
  obtain⟨_,o,ho,hnf⟩:=hl.mem hm;rw[he]at ho;cases ho;exact hnf vs hd
 refine am (wpAny_frameOf_fun hfr hl hf λh1 s1=>am (wpAny_entryPlaceOf λpl hpl=>?_));unfold EntryCells.newEntry newFields;refine am (wpAny_newObj_type ?_ (hpl.sizeOk5 _ _ _ _ _));have e1:h1.get? e=some oe:=(s1.2.1 e hne).trans he;have e2:=tz (h:=h1) { cls:=.type "traceback",dict:=none,data:=.fields ([head,.ref L,.none,rawInt L,.none]++(if pl.isEmpty then sw 6 Value.none else pl)).toArray } e1;have hTe:h1.objs.size≠e:=Nat.ne_of_gt (u8 e1);have d3:=Obj.data_mapFields hd (·.setIfInBounds 1 (Value.ref h1.objs.size));have e3:=Heap.get?_update_self (Obj.mapFields (·.setIfInBounds 1 (Value.ref h1.objs.size))) e2 (Obj.isFreed_of_fields d3);have t3:=(Heap.get?_update_other (h1.push { cls:=.type "traceback",dict:=none,data:=.fields ([head,.ref L,.none,rawInt L,.none]++(if pl.isEmpty then sw 6 Value.none else pl)).toArray })
  (Obj.mapFields (·.setIfInBounds 1 (Value.ref h1.objs.size))) (Ne.symm hTe)).trans (ul h1 rfl)
 have keep:∀ b o,b≠e->h1.get? b=some o->((h1.push { cls:=.type "traceback",dict:=none,data:=.fields ([head,.ref L,.none,rawInt L,.none]++(if pl.isEmpty then sw 6 Value.none else pl)).toArray }).update e (Obj.mapFields (·.setIfInBounds 1 (Value.ref h1.objs.size)))).get? b=some o:=
  λb o hb hq=>(Heap.get?_update_other _ _ (Ne.symm hb)).trans (tz _ hq)
 refine wpAny_setField e2 hd hsz (q _ h1.objs.size ?_ ?_ ?_ (λb o hb ho=>?_) λb o hb ho=>?_)
 .rw[s1.1];exact re _
 .refine⟨_,_,_,_,e3,d3,by simp[hsz],hTe,t3,rfl,?_⟩
  first|(simp;done)|(rcases hpl with rfl|⟨_,_,_,_,_,_,_,rfl⟩<;>simp)
 .intro oe' vs' x y;rw[he]at x;cases x;rw[hd]at y;cases y;refine⟨vs.setIfInBounds 1 (.ref h1.objs.size),?_,by simp⟩;rw[e3];obtain⟨c0,d0,dt,sl0⟩:=oe;cases hd
  rfl
 .obtain⟨sl,z⟩:=s1.2.2 b o ho;exact⟨sl,keep b _ hb z⟩
 .exact keep b o (λz=>hb (by rw[z];exact lv)) ((s1.2.1 b λz=>hb (f8 _ z)).trans ho)
abbrev vI (n₀:Nat)(ps:JV)(H:Hp)(h:Heap)(e:Addr):Prop:=(∃ oe vs,h.get? e=some oe/\oe.data=.fields vs/\vs[1]? =some Value.none)\/∃ T,n₀<=T/\H T=none/\(∀ p ∈ ps,p.1≠T)/\∃ fl,ue h e T fl
def zy {n₀:Nat}{ps:JV}{H:Hp}(hfr:A.frames=some (env::outer))(hl:s.heap.FunFrames base (env::outer))(hf:env.frame=some L)(sf:(∃ oe vs,s.heap.get? e=some oe/\oe.data=.fields vs/\vs[1]? =some Value.none)\/∃ T,n₀<=T/\H T=none/\(∀ p ∈ ps,p.1≠T)/\∃ fl,(fl ==rawInt L)=false/\ue s.heap e T fl) (h0:n₀<=s.heap.objs.size) (hps:∀ p ∈ ps,p.1<s.heap.objs.size)
  (q:∀ h' T T0,s.heap.objs.size<=T->n₀<=T0->(H T0=none\/s.heap.objs.size<=T0)->(∀ p ∈ ps,p.1≠T0)->(∀ o,s.heap.get? T0=some o->∃ ts,o.data=.fields ts)->ue h' e T (rawInt L)->a6 e s.heap h'->h'.FunFrames base (env::outer)->(∀ b o,b≠e->b≠T0->s.heap.get? b=some o->∃ sl,h'.get? b=some { o with slots:=sl })->Cw (e::T0::mi (env::outer)) s.heap h'->(∀ b o,s.heap.get? b=some o->∃ o',h'.get? b=some o')->Q () { s with heap:=h' }):
  wpAny M A (noteFrame (.ref e) env) Q E s:=by
 have fun_of:∀ {h':Heap}{as:List Addr},(∀ b ∈ as,∀ o,s.heap.get? b=some o->∃ vs,o.data=.fields vs)->(∀ b o,b ∉ as->s.heap.get? b=some o->∃ sl,h'.get? b=some { o with slots:=sl })->h'.FunFrames base (env::outer):=
  λ{h' as} ha k=>hl.of_keeps λb o ho hnf=>by
   by_cases hb:b ∈ as
   .obtain⟨vs,z⟩:=ha b hb o ho;exact absurd z (hnf vs)
   .obtain⟨sl,z⟩:=k b o hb ho;exact⟨_,z,rfl⟩
 unfold noteFrame;simp only[hf];rcases sf with⟨oe,vs,he,hd,h1⟩|⟨T0,hT0,hH0,hp0,fl,hfl,oe,vs,oT,ts,he,hd,h1,hTe,hT,hdT,h3⟩
 .skip
  refine am (bd he hd h1 ?_);rw[if_neg (by decide)];refine kC hfr hl hf he hd (Array.getElem?_eq_some_iff.mp h1).1 λh' T hT st fo sl sy=>?_
  refine q h' T s.heap.objs.size hT h0 (.inr (re _)) (λp hp=>pi (hps p hp)) (λo z=>absurd (u8 z) (Nat.lt_irrefl _)) st fo ?_ (λb o hb _ ho=>sl b o hb ho) (λb o hb ho=>sy b o (λz=>hb ?_) ho) λb o ho=>?_
  .refine fun_of (as:=[e]) (λb hb o ho=>?_) λb o hb ho=>sl b o (by simpa using hb) ho
   obtain rfl:b=e:=by simpa using hb
   rw[he]at ho;cases ho;exact⟨vs,hd⟩
  .rcases lw.mp z with z|z
   .exact lw.mpr (.inl z)
   .exact f8 _ (f8 _ z)
  .by_cases hb:b=e
   .subst hb;rw[he]at ho;cases ho;obtain⟨vs',z,_⟩:=fo _ _ he hd;exact⟨_,z⟩
   .obtain⟨sl',z⟩:=sl b o hb ho;exact⟨_,z⟩
 .refine am (bd he hd h1 ?_);rw[if_pos (show(Value.ref T0 != Value.none)=true from by simp)];refine am (bd hT hdT h3 ?_);rw[if_neg (by rw[hfl];exact Bool.false_ne_true)];refine am (wpAny_setField hT hdT (Array.getElem?_eq_some_iff.mp h3).1 ?_);have other:∀ b,b≠T0->(s.heap.update T0 (Obj.mapFields (·.setIfInBounds 3 Value.none))).get? b=s.heap.get? b:=λb hb=>Heap.get?_update_other _ _ (Ne.symm hb)
  have self':=Heap.get?_update_self (Obj.mapFields (·.setIfInBounds 3 Value.none)) hT (Obj.isFreed_of_fields (Obj.data_mapFields hdT _));have rec':∀ b o,s.heap.get? b=some o->(∀ vs,o.data≠.fields vs)->b≠T0:=λb o hb hnf z=>by
   rw[z,hT]at hb;cases hb;exact hnf ts hdT
  refine kC (base:=base) hfr (hl.of_keeps λb o hb hnf=>⟨o,(other b (rec' b o hb hnf)).trans hb,rfl⟩) hf ((other e (Ne.symm hTe)).trans he) hd (Array.getElem?_eq_some_iff.mp h1).1 λh' T hTn st fo sl sy=>?_
  have hTn':s.heap.objs.size<=T:=by
   have z:(s.heap.update T0 (Obj.mapFields (·.setIfInBounds 3 Value.none))).objs.size<=T:=hTn
   rwa [Heap.size_after_update]at z
  refine q h' T T0 hTn' hT0 (.inl hH0) hp0 (λo z=>by rw[hT]at z;cases z;exact⟨ts,hdT⟩) st (a6.trans (a6.same (other e (Ne.symm hTe))) fo) ?_ (λb o hb hb0 ho=>sl b o hb ((other b hb0).trans ho)) (λb o hb ho=>?_) λb o ho=>?_
  .refine fun_of (as:=[e,T0]) (λb hb o ho=>?_) λb o hb ho=>sl b o (λz=>hb (by simp[z])) ((other b λz=>hb (by simp[z])).trans ho)
   rcases lw.mp hb with hb|hb
   .subst hb;rw[he]at ho;cases ho;exact⟨vs,hd⟩
   .obtain rfl:b=T0:=by simpa using hb
    rw[hT]at ho;cases ho;exact⟨ts,hdT⟩
  .have n1:b≠e:=λz=>hb (by simp[z])
   have n2:b≠T0:=λz=>hb (by simp[z])
   refine sy b o (λz=>hb ?_) ((other b n2).trans ho);rcases lw.mp z with z|z
   .exact lw.mpr (.inl z)
   .exact f8 _ (f8 _ z)
  .by_cases hb:b=e
   .subst hb;obtain⟨vs',z,_⟩:=fo _ _ ((other b (Ne.symm hTe)).trans he) hd;exact⟨_,z⟩
   .by_cases hb0:b=T0
    .subst hb0;obtain⟨sl',z⟩:=sl b _ hb self';exact⟨_,z⟩
    .obtain⟨sl',z⟩:=sl b o hb ((other b hb0).trans ho);exact⟨_,z⟩
def sX {T:Addr}{fl:Value}(st:ue s.heap e T fl)
  (q:∀ h',ue h' e T .none->(∀ b,b≠T->h'.get? b=s.heap.get? b)->(∃ o,s.heap.get? T=some o)->(∃ o,h'.get? T=some o)->(∃ oT ts,h'.get? T=some oT/\oT.data=.fields ts)->Q () { s with heap:=h' }):wpAny M A (setFlight (.ref e) none) Q E s:=by
 obtain⟨oe,vs,oT,ts,he,hd,h1,hTe,hT,hdT,h3⟩:=st;have hz:3<ts.size:=(Array.getElem?_eq_some_iff.mp h3).1;have other:∀ b,b≠T->(s.heap.update T (Obj.mapFields (·.setIfInBounds 3 ((none:Option Addr).elim Value.none λf=>rawInt f)))).get? b=s.heap.get? b:=λb hb=>Heap.get?_update_other _ _ (Ne.symm hb)
 have self':=Heap.get?_update_self (Obj.mapFields (·.setIfInBounds 3 ((none:Option Addr).elim Value.none λf=>rawInt f))) hT (Obj.isFreed_of_fields (Obj.data_mapFields hdT _));unfold setFlight;refine am (bd he hd h1 ?_);rw[if_pos (show(Value.ref T != Value.none)=true from by simp)];refine wpAny_setField hT hdT hz (q _ ⟨oe,vs,_,_,(other e (Ne.symm hTe)).trans he,hd,h1,hTe,self',Obj.data_mapFields hdT _,by simp[hz]⟩ other ⟨_,hT⟩ ⟨_,self'⟩ ⟨_,_,self',Obj.data_mapFields hdT _⟩)
end
variable {A:Around}
section
variable {X:Cx}{U:St}{H:Hp}{s:Shared}{e C:Addr}{dx:Option Addr}{fs:List (Str×V)}{h':Heap}
def Inv.qv {Y:JV}(I:Inv X Y U H s):Inv X [] U H s:=I.lM λ_ z=>absurd z (by simp)
def Inv.GR {T0:Addr}{as:List Addr}(I:Inv X [] U H s)(hpn:∀ p ∈ X.pn,p.1≠T0) (he:H e=some (.exc C dx fs false)) (has:as=mi X.stack)
  (hT:X.s₀.heap.objs.size<=T0) (hT0:H T0=none\/s.heap.objs.size<=T0) (hTd:∀ o,s.heap.get? T0=some o->∃ ts,o.data=.fields ts)
  (fo:a6 e s.heap h') (sl:∀ b o,b≠e->b≠T0->s.heap.get? b=some o->∃ sl,h'.get? b=some { o with slots:=sl }) (sy:Cw (e::T0::as) s.heap h') (th:∀ b o,s.heap.get? b=some o->∃ o',h'.get? b=some o'):
  Inv X [] U H { s with heap:=h' }:=by
 subst has;obtain⟨⟨vs,ho,hsz,_⟩,z⟩:=id (I.hok e _ he);have hH0:H T0=none:=by
  rcases hT0 with z|z
  .exact z
  .exact I.hok.fresh z
 have nT:∀ {b:Addr}{o:Obj},s.heap.get? b=some o->(∀ vs,o.data≠.fields vs)->b≠T0:=λ{b o} hb hn z=>by
  subst z;obtain⟨ts,q⟩:=hTd _ hb;exact hn ts q
 have eO:∀ b o,H b=none->b≠T0->b ∉ mi X.stack->s.heap.get? b=some o->h'.get? b=some o:=λb o hb h0 hf hq=>sy b o (λm=>by
  rcases lw.mp m with m|m
  .rw[m,he]at hb;cases hb
  .rcases lw.mp m with m|m
   .exact h0 m
   .exact hf m) hq
 have BO:∀ a u,H a=some u->a≠e->∀ o,s.heap.get? a=some o->h'.get? a=some o:=λa u ha ne o hq=>sy a o (λm=>by
  rcases lw.mp m with m|m
  .exact ne m
  .rcases lw.mp m with m|m
   .rw[m,hH0]at ha;cases ha
   .rw[I.mY a m]at ha;cases ha) hq
 refine I.step (g':=s.gens) (t':=s.toks) (d':=s.drawn) (ch:=[T0]) (h':=h') (λb hb=>?_) (λb o hL hfs hch hq hn=>?_) (λb o hL hfs hch hq hn=>?_) (λb o _ _ hn=>hn) (λb o _ hq=>th b o hq) (λ_ _ q=>q) (λ_ _ _ q=>q) (λb ps q=>⟨#[],by rw[q];simp⟩) (λm hm=>?_) (λa u ha=>?_) I.bare
 .obtain rfl:b=T0:=by simpa using hb
  refine⟨.inr hT,?_,λx c hc z=>?_,λp hp=>hpn p (by simpa using hp)⟩
  .obtain⟨m,⟨o,es,ep,ho',hd,_⟩,_⟩:=I.loc;intro z;exact nT ho' (λvs q=>by rw[hd]at q;cases q) z.symm
  .obtain⟨v,o,ho',hd⟩:=I.cell x c hc;exact nT ho' (λvs q=>by rw[hd]at q;cases q) z
 .refine eO b o hn (by simpa using hch) (λm=>?_) hq;rcases lw.mp (I.hX b m) with z|z
  .exact hL z
  .exact hfs z
 .exact sl b o (λz=>by rw[z,he]at hn;cases hn) (by simpa using hch) hq
 .obtain⟨o,es,ep,ho',hd,r⟩:=hm;have n1:X.env.locals≠e:=λz=>by have:=I.free;rw[z,he]at this;cases this
  obtain⟨sl',q⟩:=sl _ o n1 (nT ho' λvs q=>by rw[hd]at q;cases q) ho';exact⟨_,es,ep,q,hd,r⟩
 .by_cases hae:a=e
  .subst hae;rw[he]at ha;cases ha;obtain⟨vs',q,hz⟩:=fo _ vs ho rfl;refine⟨⟨vs',q,hz.trans hsz,λy=>by cases y⟩,?_⟩;rcases z with z|⟨d,ed,d1,z1,ne,mA,⟨od,es,ep,e2,c⟩,r⟩
   .exact .inl z
   .exact .inr ⟨d,ed,d1,z1,ne,mA,⟨od,es,ep,BO d _ d1 ne _ e2,c⟩,r⟩
  .refine(I.hok a u ha).eO (λb o hb hq=>?_) (λ_ q=>q) λ_ _ q=>q
   rcases hb with hb|hb
   .subst hb;exact BO b u ha hae o hq
   .refine BO b _ hb (λz=>?_) o hq;rw[z,he]at hb;cases hb
abbrev xb (P:Program)(w:World):su:=λouter H s E u s'=>∃ (e:Addr) (H':Hp) (C:Addr) (dx:Option Addr) (fs:List (Str×V)) (T:Addr),u=.ref e/\s'.os=s.os/\AllBare s'.gens/\Un (mi outer) [] H H' s.heap s'.heap/\fq P w H' s'.heap/\
 H' e=some (.exc C dx fs false)/\s.heap.objs.size<=T/\H' T=none/\ue s'.heap e T .none/\E e H'
abbrev Ez (X:Cx)(E:St->XK):Prop:=∀ (U:St) (H:Hp) (s:Shared) (e C:Addr) (dx:Option Addr) (fs:List (Str×V)),Inv X [] U H s->vI X.s₀.heap.objs.size X.pn H s.heap e->H e=some (.exc C dx fs false)->E U e H->X.xe (.ref e) s
def gO {E:St->XK}(x:Ez X E):Passes (xb X.prog X.w) X E:=by
 intro Y U H s u s' I h;obtain⟨e,H',C,dx,fs,T,rfl,os,bare,un,hok,he,hT,hT0,st,q⟩:=h;have J:Inv X [] U H' s':=Inv.sW (ch:=[]) I.qv os un hok bare (λb z=>absurd z (by simp));exact x U H' s' e C dx fs J (.inr ⟨T,Nat.le_trans I.sz hT,hT0,λp hp=>pi (ol (u8 (I.pin p (mem_append_left _ hp)).1) hT),_,st⟩) he q
def mF {x:Value}{e1 e2:Env}(h:e1.frame=e2.frame):noteFrame x e1=noteFrame x e2:=by
 unfold noteFrame PySem.frameOf;rw[h]
def Inv.xa {T:Addr}{oT:Obj}{ts:Array Value}(I:Inv X [] U H s)(hT:s.heap.get? T=some oT)(hd:oT.data=.fields ts):T≠X.env.locals/\∀ x c,X.env.cells.lookup x=some c->c≠T:=by
 refine⟨λz=>?_,λx c hc z=>?_⟩
 .obtain⟨m,⟨o,es,ep,ho',hd',_⟩,_⟩:=I.loc;rw[<-z,hT]at ho';cases ho';rw[hd]at hd';cases hd'
 .obtain⟨v,o,ho',hd'⟩:=I.cell x c hc;rw[z,hT]at ho';cases ho';rw[hd]at hd';cases hd'
def nR {M:Model}{E':JU}{env e0:Env}{o0:List Env}{L:Addr}(I:Inv X [] U H s)(hs:X.stack=e0::o0)(hf0:e0.frame=some L)(hf:env.frame=some L)(sf:vI X.s₀.heap.objs.size X.pn H s.heap e)(he:H e=some (.exc C dx fs false))
  (q:∀ h' T,Inv X [] U H { s with heap:=h' }->X.s₀.heap.objs.size<=T->H T=none->(∀ p ∈ X.pn,p.1≠T)->ue h' e T (rawInt L)->Q () { s with heap:=h' }):
  wpAny M X.A (noteFrame (.ref e) env) Q E' s:=by
 rw[mF (e1:=env) (e2:=e0) (hf.trans hf0.symm)];have hl:s.heap.FunFrames X.base (e0::o0):=hs▸I.stack;have go:((∃ oe vs,s.heap.get? e=some oe/\oe.data=.fields vs/\vs[1]? =some Value.none)\/∃ T,X.s₀.heap.objs.size<=T/\H T=none/\(∀ p ∈ X.pn,p.1≠T)/\∃ fl,(fl ==rawInt L)=false/\ue s.heap e T fl)->wpAny M X.A (noteFrame (.ref e) e0) Q E' s:=λsf=>by
  refine zy (by rw[<-hs];exact I.ok.frames) hl hf0 sf I.sz (λp hp=>u8 (I.pin p (mem_append_left _ hp)).1) λh1 T T0 hT hT0 hH0 hp0 hTd st fo fF sl sy th=>?_
  exact q h1 T (I.GR (T0:=T0) (as:=mi (e0::o0)) (h':=h1) hp0 he (by rw[hs]) hT0 hH0 hTd fo sl sy th) (Nat.le_trans I.sz hT) (I.hok.fresh hT) (λp hp=>pi (ol (u8 (I.pin p (mem_append_left _ hp)).1) hT)) st
 rcases sf with sf|⟨T,hT,hH,hp,fl,st⟩
 .exact go (.inl sf)
 .cases hfl:(fl ==rawInt L) with
  |false=>exact go (.inr ⟨T,hT,hH,hp,fl,hfl,st⟩)
  |true=>
   obtain rfl:fl=rawInt L:=eq_of_beq hfl;obtain⟨oe,vs,oT,ts,he',hd,h1,hTe,hoT,hdT,h3⟩:=id st;exact wpAny_noteFrame_inFlight hf0 he' hd h1 hoT hdT h3 (q s.heap T I hT hH hp st)
def kJ {M:Model}{E E':JU}{Q:Shared->Prop}(I:Inv X [] U H s)(hs:X.stack=X.env::X.outer)(hf:X.env.frame=some X.env.locals)(sf:vI X.s₀.heap.objs.size X.pn H s.heap e)(he:H e=some (.exc C dx fs false))
  (q:∀ s' T,Inv X [] U H s'->s'.os=s.os->X.s₀.heap.objs.size<=T->H T=none->(∀ p ∈ X.pn,p.1≠T)->ue s'.heap e T .none->Q s'):
  wpAny M X.A (noteFrame (.ref e) X.env) (λ_ s1=>wpAny M X.A (setFlight (.ref e) none) (λ_ s2=>Q s2) E s1) E' s:=by
 refine nR I hs hf hf sf he λh1 T I1 hT hHT hpT st=>?_
 obtain⟨_,_,oT,ts,_,_,_,_,hoT,hdT,_⟩:=id st;obtain⟨n1,n2⟩:=I1.xa hoT hdT;refine sX (s:={ s with heap:=h1 }) st λh2 qN oth _ th2 rec2=>?_
 exact q _ T (Inv.turned (s:={ s with heap:=h1 }) (it:=T) (h':=h2) (t':=s.toks) I1 (λb o hb hq=>(oth b hb).trans hq) hHT n1 (.inr hT) n2 λp hp=>hpT p (by simpa using hp)) rfl hT hHT hpT qN
def uf {P:Program}{w:World}{K:W.Frag}{mg:JW}{base:Heap}{N:List Str}{qual:Str}{scope:Scope}{f:Addr}{cd:Value}{outer:List Env}{E:XK}:
  Ez (tW (xb P w) P w K mg base N qual scope f cd A outer s H E) (λ_=>E):=by
 intro σ' H' s' e C dx fs I sf he q;show wpAny _ _ (do noteFrame (.ref e) _;setFlight (.ref e) none) _ _ s';refine am (kJ I rfl rfl sf he λs2 T J os hT hH _ st=>?_);exact⟨e,H',C,dx,fs,T,rfl,J.os,J.bare,J.base,J.hok,he,hT,hH,st,q⟩
end
structure Hl (K:W.Frag) (C f:Addr):Prop where
 mks:bC K C=true
 init:W.findIn K (.ref C) "__init__"=some (some (.ref f))
 fn:W.isFn K (.ref f)=true
 kp:W.keepIn K (.ref C)=true
variable {us:List Value}{vs:List V}
section
variable {X:Cx}{Y:JV}{U:St}{H:Hp}{s:Shared}{C f:Addr}
def Inv.BE (us:List Value)(I:Inv X Y U H s):Inv X Y U (upd H (s.heap.objs.size+1) (.exc C none [] true))
  { s with heap:=(s.heap.push { cls:=.type "tuple",data:=.seq us.toArray }).push { cls:=.ref C,data:=.fields #[.ref s.heap.objs.size,.none,.none,.none,.bool false,.none] } }:=by
 have I1:=I.kept (h':=s.heap.push { cls:=.type "tuple",data:=.seq us.toArray }) (t':=s.toks) λb u q=>tz _ q
 refine Inv.laid (s:={ s with heap:=s.heap.push { cls:=.type "tuple",data:=.seq us.toArray } }) (a:=s.heap.objs.size+1) (o:=.exc C none [] true) (t':=s.toks) I1 (λb u q=>tz _ q) (Nat.le_of_eq (Heap.size_push _ _)) ?_;refine⟨⟨#[.ref s.heap.objs.size,.none,.none,.none,.bool false,.none],?_,rfl,λ_=>rfl⟩,.inl ⟨rfl,rfl⟩⟩;have:=ul (s.heap.push { cls:=.type "tuple",data:=.seq us.toArray }) (o:={ cls:=.ref C,data:=.fields #[.ref s.heap.objs.size,.none,.none,.none,.bool false,.none] }) rfl
 rwa [Heap.size_push]at this
variable {CX:su}{k:Nat}{fd:FuncData}{ps:List Str}{sp:Sp}{dvs:List V}{ds:List Value}{E:St->XK}{x m:Str}{p pos apos:Pos}{e o:Expr}{es:List Expr}{ta:TE}{t:TA}
abbrev ve (C:Addr)(sp:Sp)(dvs:List V)(E:St->XK)(t:TA):TE:=λU H Q=>t U H λvs H1=>vs.length<=1000/\∀ x,H1 x=none->sp (.ref x::(vs++dvs)) (upd H1 x (.exc C none [] true)) (λv H2=>v=.non/\Q (.ref x) H2) (E U)
def kH {Q:VK}(M:Hl X.K C f)(F:cT X.prog X.w X.K X.mg X.base CX k f fd ps sp)(hr:bp (k+1) X.A)(hb:Binds X.K fd ps ds)(hd:Vals dvs ds)
  (hx:Passes CX X E) (hz:us.length<=ce) (I:Inv X Y U H s) (r:Vals vs us)
  (h:∀ x,H x=none->sp (.ref x::(vs++dvs)) (upd H x (.exc C none [] true)) (λv H2=>v=.non/\Q (.ref x) H2) (E U)):
  wpAny (model X.prog X.w) X.A (call (.ref C) us) (EP X Y U Q) X.xe s:=by
 have hq:=h (s.heap.objs.size+1) (I.hok.fresh (Nat.le_succ _));have I2:=Inv.BE (C:=C) us I;have r2:Vals (V.ref (s.heap.objs.size+1)::(vs++dvs)) (Value.ref (s.heap.objs.size+1)::(us++ds)):=.cons rfl (r.append hd);have hl:(Value.ref (s.heap.objs.size+1)::us++ds).length=ps.length:=by
  have e:=r2.length;rw[F.len _ _ _ _ hq]at e;exact e.symm
 obtain⟨hh,g,d,tk,os⟩:=s;refine wpAny_call (D4 (fI:=f) I.bw hz M.mks M.init (beq_iff_eq.mp M.fn) (codeAny_mono (F.run _ X.stack _ _ ⟨Value.ref (hh.objs.size+1)::us,[]⟩ (Value.ref (hh.objs.size+1)::(us++ds)) _ _ (E U) (hr.make C us [])
  (I2.iq.make C us []) (hb _ (Value.ref (hh.objs.size+1)::us) I2.bw hl) r2 hq) λr s' hq'=>?_))
 cases r with
 |error e=>exact hx Y U _ _ e s' I2 hq'
 |ok fl=>
  cases fl with
  |ret u=>
   obtain⟨v,H',J,rv,ev,q⟩:=I2.after hq';subst ev;obtain rfl:u=Value.none:=rv;exact⟨rfl,.ref _,H',J,rfl,q⟩
  |next=>exact False.elim hq'
  |brk=>exact False.elim hq'
  |cont=>exact False.elim hq'
def vU (M:Hl X.K C f)(F:cT X.prog X.w X.K X.mg X.base CX k f fd ps sp)(hr:bp (k+1) X.A)(hg:Gl X x)(hm:X.mg x=some (.ref C))(hb:Binds X.K fd ps ds)(hd:Vals dvs ds)(hx:Passes CX X E)
  (ha:PA X (e::es) t) (hdb:(x ==("__debug__":Str))=false:=by decide) (he:bv (e::es) X.env=(false,eval e X.env)::bv es X.env:=by rfl) (hpl:(backTo pos (bv es X.env)).any (·.1)=false:=by rfl):
  PE X (.Call (.Name x p) (e::es) [] pos) (ve C sp dvs E t):=by
 intro Y s U H Q I h;refine ci (ba I hg hm ?_ hdb);refine W.callWith_K (h₀:=X.base) I.ok.mod.kin M.kp (aC (ha pos Y s U H _ I h) λus s1 ⟨vs,H1,I1,r,z,q⟩=>⟨I1.bw,?_⟩) he hpl;exact kH M F hr hb hd hx (by rw[nil_append,<-r.length];exact Nat.le_of_lt (cS z)) I1 r q
structure De (K:W.Frag) (C:Addr):Prop where
 mks:bC K C=true
 init:W.findIn K (.ref C) "__init__"=some (some (.builtin "ValueError.__init__"))
 kp:W.keepIn K (.ref C)=true
 cls:bS K C
abbrev AE (C:Addr)(t:TA):TE:=λU H Q=>t U H λvs H1=>vs.length=1/\∀ x,H1 x=none->Q (.ref x) (upd H1 x (.exc C none [] true))
def qu {Q:VK}(M:De X.K C)(I:Inv X Y U H s)(r:Vals vs us)(h1:vs.length=1)(h:∀ x,H x=none->Q (.ref x) (upd H x (.exc C none [] true))):
  wpAny (model X.prog X.w) X.A (call (.ref C) us) (EP X Y U Q) X.xe s:=by
 have hq:=h (s.heap.objs.size+1) (I.hok.fresh (Nat.le_succ _));have I2:=Inv.BE (C:=C) us I;obtain⟨u,rfl⟩:∃ u,us=[u]:=by
  have e:=r.length;rw[h1]at e
  match us,e with
  | [u],_=>exact⟨u,rfl⟩
 obtain⟨hh,g,d,tk,os⟩:=s;refine wpAny_call (yJ I.bw (by rw[sizeLine_eq];exact pc rfl) M.mks M.init (jo (C:=C) (dx:=none) (fs:=[]) (fr:=true) I2 ar M.cls λs' J=>?_));exact⟨rfl,.ref _,_,J,rfl,hq⟩
def wD (M:De X.K C)(hg:Gl X x)(hm:X.mg x=some (.ref C))(ha:PA X (e::es) t)(hdb:(x ==("__debug__":Str))=false:=by decide) (he:bv (e::es) X.env=(false,eval e X.env)::bv es X.env:=by rfl) (hpl:(backTo pos (bv es X.env)).any (·.1)=false:=by rfl):
  PE X (.Call (.Name x p) (e::es) [] pos) (AE C t):=by
 intro Y s U H Q I h;refine ci (ba I hg hm ?_ hdb);refine W.callWith_K (h₀:=X.base) I.ok.mod.kin M.kp (aC (ha pos Y s U H _ I h) λus s1 ⟨vs,H1,I1,r,z,q⟩=>⟨I1.bw,?_⟩) he hpl;exact qu M I1 r z q
structure Jg (K:W.Frag) (B:Addr):Prop where
 ga:W.specialIn K (.ref B) "__getattribute__"=some (some (.builtin "type.__getattribute__"))
 rd:W.readsIn K B (.type "type")=true
 fi:W.findCls K (.ref B) (.type "type") "__init__"=some (.val (.builtin "ValueError.__init__"))
abbrev Hv (K:W.Frag)(t:TA):TE:=λU H Q=>t U H λvs H1=>∃ a C dx fs fr v,vs=[.ref a,v]/\H1 a=some (.exc C dx fs fr)/\bS K C/\Q .non H1
def Dd {B:Addr}{pl:Sem Bool}{np:Pos}(b:Jg X.K B)(hg:Gl X x)(hm:X.mg x=some (.ref B))(ha:PA X (e::es) t)(hdb:(x ==("__debug__":Str))=false:=by decide)
  (hst:bv (e::es) X.env=(false,eval e X.env)::bv es X.env:=by rfl) (hpl:(backTo pos (bv es X.env)).any (·.1)=false:=by rfl)
  (ht:eval (.Call (.Attribute (.Name x np) "__init__" apos) (e::es) [] pos) X.env=(do
   let ov <-eval (.Name x np) X.env
   standAt apos.atName
   let(f,first) <-holding [ov] (getMethod ov "__init__" pl)
   callWith pos f first (backTo pos (bv (e::es) X.env)) (backToKw pos (keywordEach [] X.env))):=by rfl):
  PE X (.Call (.Attribute (.Name x np) "__init__" apos) (e::es) [] pos) (Hv X.K t):=by
 intro Y s U H Q I h;refine W.methodCall_KW (pl:=pl) (ba I hg hm ?_ hdb) ht;refine W.method_cls I.bw b.ga (W.cls_value I.bw b.rd b.fi (by decide+kernel) ?_);refine PyProof.Rows.callWith_builtin1 (aC (ha pos Y _ U H _ (I.tok _) h) λus s1 ⟨vs,H1,I1,r,a,C,dx,fs,fr,v,ev,ea,c,q⟩=>?_) hst hpl;subst ev;cases r with
 |cons r1 r2=>
  cases r2 with
  |cons r3 r4=>
   cases r4;cases r1;exact qI I1 ea c λs' J=>⟨.non,H1,J,rfl,q⟩
structure Jq (K:W.Frag) (C f:Addr):Prop where
 ga:W.specialIn K (.ref C) "__getattribute__"=some (some (.builtin "type.__getattribute__"))
 rd:W.readsIn K C (.type "type")=true
 fi:W.findCls K (.ref C) (.type "type") "__init__"=some (.val (.ref f))
 kp:W.keepIn K (.ref f)=true
end
section
open PySem.Builtin PySem.Builtin.ObjectAttr
variable {prog:Program}{w:World}{A:Around}{E:JU}{s:Shared}{K:W.Frag}{x C:Addr}{ox:Obj}{odo:Option Obj}
structure vJ (K:W.Frag) (C:Addr):Prop where
 ha:W.findIn K (.ref C) "__class__"=some (some (.builtin "object.__class__"))
 hn:W.specialIn K (.builtin "object.__class__") "__get__"=some (some (.builtin "getset_descriptor.__get__"))
 htk:W.takesIn K (.builtin "object.__class__")=some true
def zT {Q:Option Value->Shared->Prop}(X:K.In s.heap)(I:W.InstAt s.heap x ox C odo)(c:bS K C)(z:vJ K C)(hfo:W.findObj K C odo "__class__"=some (.bind (.builtin "getset_descriptor.__get__") (.builtin "object.__class__")))
  (h:Q (some (.ref C)) { s with toks:=s.toks+1 }):wpAny (model prog w) A (getAttr? (.ref x) "__class__") Q E s:=by
 obtain⟨hp,g,d,t,os⟩:=s;have L0:=I.type (M:=model prog w);have L1:=looks_findIn (M:=model prog w) X c.ga;have L2':=looks_findIn (M:=model prog w) X c.gn;have L3:=looks_find (M:=model prog w) X I hfo;have L4:Looks (model prog w) hp (isInstance (.ref x) (.type "BaseException")) true:=I.type.andThen (looks_mroIn X (c.sub (by decide+kernel)));unfold getAttr? getAttrBy? getAttrBy;refine am (wpAny_mkText (am (wpAny_attempt (bi (am (L0.at (am (L1.at ?_))))))));have e1:(Value.builtin "BaseException.__getattribute__" ==Value.builtin "object.__getattribute__")=false:=by decide+kernel
 dsimp only;rw[e1,Bool.and_false];show wpAny _ _ (getAttrByItsOwn _ _ _ _ _ _) _ _ _;unfold getAttrByItsOwn hookBefore;refine am (L2'.at ?_);refine am (wpAny_attempt (bi ?_));unfold callGetattribute;show wpAny _ _ (boundAndCalled _ _ _) _ _ _;unfold boundAndCalled;rw[PySem.F.attr_ValueError.ga.bind];refine am (ap (wpAny_call (codeAny_call_builtin PySem.F.attr_ValueError.ga.plain PySem.F.entry_bexc_ga ?_)));refine @check_slot (model prog w) _ _ _ "BaseException.__getattribute__" "BaseException" "__getattribute__" (.ref x) [.str "__class__" t] [] _ nj kY L4 (PySem.F.args_bexc_ga (.ref x) (.str "__class__" t)) ?_;unfold Builtin.«object.__getattribute__»;refine am (ap (am (ap (am (L0.at (am (L3.at ?_)))))));show wpAny _ _ (holding [_] (call _ [_,.ref x,.ref C]) >>= ret) _ _ _;refine am (bi (wpAny_call (class_get (s:=⟨hp,g,d,t+1,os⟩) (ox:=ox) (od:=odo) X I (c.sub (by decide+kernel)) ?_)));refine ap ?_;show wpAny _ _ (handedOut (.ref C)) _ _ _;exact handed_on rfl (ap h)
def vm (c:bS K C)(z:vJ K C):W.findObj K C odo "__class__"=some (.bind (.builtin "getset_descriptor.__get__") (.builtin "object.__class__")):=by
 obtain⟨cd,hc,_⟩:=W.any_some c.hd;unfold W.findObj;rw[hc,Option.bind_some,z.ha,Option.bind_some];simp[z.hn,z.htk]
def ow (c:bS K C)(z:vJ K C):W.KitX K (.ref x) (.ref C) (λh=>W.InstAt h x ox C odo) where
 ty:=λ_ _ _ I=>I.type
 it:=λ_ _ X _=>by
  obtain⟨cdD,hcD,_⟩:=W.any_some c.hd;unfold W.clsIn at hcD
  split at hcD
  .rename_i c' d' cd' sl' ho;intro A' Q' E' s' k q;unfold isType loadHead;exact am (wpAny_loadPart (k _ _ (X _ _ ho)) (ap q))
  .cases hcD
 ne:=λh tp dd its n sl X htp=>by
  obtain⟨cdD,hcD,_⟩:=W.any_some c.hd;refine Bool.eq_false_iff.mpr λq=>?_
  have e:C=tp:=Value.ref.inj (beq_iff_eq.mp q);subst e;unfold W.clsIn at hcD
  split at hcD
  .rename_i c' d' cd' sl' ho;have z:=(X _ _ ho).symm.trans htp;cases z
  .cases hcD
 ca:=λX I k=>zT X I c z (vm c z) k
end
section
variable {X:Cx}{Y:JV}{U:St}{H:Hp}{s:Shared}{a C:Addr}{dx:Option Addr}{fs:List (Str×V)}{fr:Bool}
def nJ (I:Inv X Y U H s)(e:H a=some (.exc C dx fs fr)):∃ ox odo,W.InstAt s.heap a ox C odo:=by
 obtain⟨⟨vs,ho,_⟩,z⟩:=id (I.hok a _ e);rcases z with⟨rfl,_⟩|⟨d,rfl,_,_,_,mA,⟨od,es,ep,hod,_⟩,_⟩
 .exact⟨_,none,ho,rfl,rfl,True.intro⟩
 .exact⟨_,some od,ho,rfl,rfl,hod⟩
def vx {E:JU}{Q:JU}{cv:Value}{b:Bool}(I:Inv X Y U H s)(e:H a=some (.exc C dx fs fr))(c:bS X.K C)(z:vJ X.K C)(k:W.kitOne X.K (.ref C) cv=some b)
  (h:∀ tk,Q (.bool b) { s with toks:=tk }):wpAny (model X.prog X.w) A (call (.builtin "isinstance") [.ref a,cv]) Q E s:=by
 obtain⟨ox,odo,J⟩:=nJ I e;exact W.kia_one (ow (ox:=ox) (odo:=odo) c z) I.bw J k (λz=>nomatch z) h
end
end L2
namespace L2
open PySem PySem.Spec PySem.W PyProof.Rows
variable {dx:Option Addr}
section
variable {X:Cx}{f:Str}{o value ex:Expr}{ta tv te:TE}{pos pos':Pos}{E:St->XK}
def qj {h:Heap}{a:Addr}{C:Addr}{vs:Array Value}{M:Model}(ho:h.get? a=some { cls:=.ref C,dict:=dx,data:=.fields vs }):W.Looks M h (isType (.ref a)) false:=by
 intro A Q E s k q;unfold isType loadHead;exact am (wpAny_loadPart (k _ _ ho) (ap q))
abbrev Cm (K:W.Frag)(E:St->XK)(te:TE):TS:=λD U H=>te U H λv H1=>∃ a C dx fs,v=.ref a/\H1 a=some (.exc C dx fs true)/\bS K C/\E U a (upd H1 a (.exc C dx fs false))
def vB (hx:Ez X E)(hc:X.calm=true)(he:PE X ex te):PS X (.Raise (some ex) none pos) (Cm X.K E te):=by
 intro Y s U H D I h;rw[arm_exec_Raise];simp only[evalOpt,Option.map];refine am (wpAny_standAt ?_);unfold raiseStmt;refine am (am (aC (he Y s U H _ I h) λu s1 ⟨y,H1,I1,ry,a,C,dx,fs,ey,ea,c,q⟩=>am (wpAny_standAt (ap ?_))));subst ey;obtain rfl:u=Value.ref a:=ry;obtain⟨⟨vs,ho,hsz,h1⟩,z⟩:=id (I1.hok a _ ea);have h1':=h1 rfl;have hq:X.xe (.ref a) s1:=by
  have J:Inv X [] U (upd H1 a (.exc C dx fs false)) s1:=by
   have J1:=I1.qv.write (x:=a) (e:=a) (o:=.exc C dx fs false) (t':=s1.toks) (h':=s1.heap) (by rw[ea];exact True.intro) (.inl rfl) (λ_ _ _ q=>q) ⟨_,ho⟩ ?_
   .exact J1
   .refine⟨⟨vs,ho,hsz,λy=>by cases y⟩,?_⟩;rcases z with z|⟨d,ed,d1,z1,ne,r⟩
    .exact .inl z
    .exact .inr ⟨d,ed,by rw[ag ne];exact d1,z1,ne,r⟩
  exact hx U _ s1 a C dx fs J (.inl ⟨_,vs,ho,rfl,h1'⟩) ar q
 obtain⟨hp,g,d,tk,os⟩:=s1;have L0:Looks (model X.prog X.w) hp (typeOf (.ref a)) (.ref C):=(Looks.ld ho).andThen .now;have L1:Looks (model X.prog X.w) hp (isType (.ref a)) false:=qj ho;have L2':Looks (model X.prog X.w) hp (isInstance (.ref a) (.type "BaseException")) true:=L0.andThen (looks_mroIn I1.bw (c.sub (by decide+kernel)));have L5:Looks (model X.prog X.w) hp (typeOf (.ref C)) (.type "type"):=looks_typeIn I1.bw c.mt;have tt:(Value.type "type" ==Value.type "type")=true:=by decide
 repeat(first|simp only[Bool.false_eq_true,if_false,if_true,tt]|lk)
 rw[h1'];refine ap ?_;rw[if_neg (by decide)];exact ap (wpAny_raiseNew_none (I1.ok.hd hc) hq)
end
@[reducible]def Cx.a9 (X:Cx) (e:Value):Cx:={ X with A:=X.A.mark (some e),calm:=false,xe:=λ_ _=>False }
variable {xe:JU}{ps:JV}{D:Ends}
section
variable {X:Cx}{Y:JV}{U:St}{H:Hp}{s:Shared}
def Cx.Ok.a9 (ok:X.Ok)(e:Value):(X.a9 e).Ok:=
 ⟨ok.mod,ok.kind,ok.glob,ok.blt,ok.above,ok.inj,ok.has,ok.cab,(λz=>by cases z),ok.frames,ok.stk,ok.exf,ok.bs,ok.bsz,ok.noex,ok.exfs,ok.hR,ok.frf⟩
def Inv.a9 (I:Inv X Y U H s)(e:Value):Inv (X.a9 e) Y U H s:=⟨I.ok.a9 e,I.os,I.bare,I.base,I.loc,I.cell,I.free,I.freeC,I.pin,I.hok,I.len⟩
def Inv.jg {e:Value}(ok:X.Ok)(I:Inv (X.a9 e) Y U H s):Inv X Y U H s:=⟨ok,I.os,I.bare,I.base,I.loc,I.cell,I.free,I.freeC,I.pin,I.hok,I.len⟩
def eA {M:Model}{A:Around}{E:JU}{Q:JT}{i:Nat}{n:Str}{pos:Pos}(I:Inv X Y U H s)(hN:X.N.Nodup)(hi:X.N[i]? =some n)(hn:X.env.scope.names.lookup n=some .local)
  (h:∀ s',Inv X Y (U.set i none) H s'->Q () s'):wpAny M A (do bindName X.env n .none;unbindBehindTheSuite X.env n pos) Q E s:=by
 have hcls:(X.env.scope.kind ==.class||(X.env.scope.kind ==.module&&X.env.locals != X.env.globals))=false:=by rw[I.ok.kind];rfl
 refine am (wpAny_bindName (dI I hN hi (.inl hn) (v:=.non) rfl (λs1 I1=>?_) (.inr hn)));obtain⟨m,hm,hl⟩:=I1.loc;unfold unbindBehindTheSuite;refine wpAny_onRaise ?_;unfold unbindName;refine am (wpAny_point (am ?_));unfold deleteName;have hk:X.env.kindOf n=some .local:=hn;have hiσ:i<U.length:=by rw[I.len];exact(sK.mp hi).1
 have hmn:(m n).isSome=true:=by
  obtain⟨u,_,l⟩:=hl i n .non hi (by rw[getElem?_set_self hiσ]) (.inl hn);rcases l with⟨_,q⟩|⟨q,_⟩
  .rw[q];rfl
  .rcases q with q|q<;>(rw[hk]at q;cases q)
 simp only[hk,hcls];rw[if_neg (by decide)];refine am (wpAny_nsDel_keeps hm λh2 v hn2 hs2=>?_);rw[hmn];simp only[if_true,Bool.not_true,Bool.false_eq_true,if_false];refine ap (wpAny_point (h { s1 with heap:=h2 } ?_));obtain⟨oL,esL,epL,hoL,_⟩:=id hm;have xp:=I1.xp;refine⟨I1.ok,I1.os,I1.bare,⟨λb o e n hb hx=>?_,λb o e n hb hx=>?_,I1.base.free,λb o e hx=>?_,I1.base.tups,I1.base.frzs,I1.base.tbls⟩,⟨_,hn2,λj y v' e1 e2 e3=>?_⟩,λy c e=>?_,I1.free,I1.freeC,λp hp=>?_,λa u ha=>?_,by rw[length_set];exact I.len⟩
 .exact(hs2.2 b (pi (ol (u8 e) I1.ok.above))).trans (I1.base.keep b o e n hb hx)
 .obtain⟨sl,q⟩:=I1.base.slot b o e n hb hx;exact⟨sl,(hs2.2 b (pi (ol (u8 e) I1.ok.above))).trans q⟩
 .obtain⟨o',q⟩:=I1.base.there b o e hx;exact⟨o',(hs2.2 b (pi (ol (u8 e) I1.ok.above))).trans q⟩
 .have hj:j≠i:=λz=>by rw[z,getElem?_set_self hiσ]at e2;cases e2
  rw[getElem?_set_ne (Ne.symm hj)]at e2;obtain⟨u,r,q⟩:=hl j y v' e1 (by rw[getElem?_set_ne (Ne.symm hj)];exact e2) e3;refine⟨u,r,?_⟩;rcases q with⟨k,e⟩|⟨k,c,e,z⟩
  .refine .inl ⟨k,?_⟩;have ny:y≠n:=λz=>hj (jt hN e1 (z▸hi))
   show(if y=n then v else m y)=some u;rw[if_neg ny];exact e
  .exact .inr ⟨k,c,e,z.sameBut hs2 (xp y c e)⟩
 .obtain⟨w',z⟩:=I1.cell y c e;exact⟨w',z.sameBut hs2 (xp y c e)⟩
 .obtain⟨e,n,ne,nf,d⟩:=I1.pin p hp;exact⟨(hs2.2 p.1 ne).trans e,n,ne,nf,d⟩
 .refine(I1.hok a u ha).eO (λb o hb hq=>(hs2.2 b ?_).trans hq) (λ_ q=>q) λ_ _ q=>q
  rintro rfl;rcases hb with hb|hb
  .rw[<-hb,I1.free]at ha;cases ha
  .rw[I1.free]at hb;cases hb
@[reducible]def Cx.fA (X:Cx) (Y:JV) (xe:JU):Cx:={ X with pn:=X.pn++Y,xe:=xe }
def Cx.Ok.fA (ok:X.Ok)(Y:JV)(xe:JU):(X.fA Y xe).Ok:=
 ⟨ok.mod,ok.kind,ok.glob,ok.blt,ok.above,ok.inj,ok.has,ok.cab,ok.hd,ok.frames,ok.stk,ok.exf,ok.bs,ok.bsz,ok.noex,ok.exfs,ok.hR,ok.frf⟩
def Inv.fA (I:Inv X Y U H s)(xe:JU):Inv (X.fA Y xe) [] U H s:=
 ⟨I.ok.fA Y xe,I.os,I.bare,I.base,I.loc,I.cell,I.free,I.freeC,λp hp=>I.pin p (by simpa using hp),I.hok,I.len⟩
def Inv.fh (ok:X.Ok)(I:Inv (X.fA Y xe) ps U H s):Inv X Y U H s:=
 ⟨ok,I.os,I.bare,I.base,I.loc,I.cell,I.free,I.freeC,λp hp=>I.pin p (mem_append_left _ hp),I.hok,I.len⟩
def SP.fh {f:Flow}(ok:X.Ok)(h:SP (X.fA Y xe) ps D f s):SP X Y D f s:=by
 cases f with
 |next=>obtain⟨σ',H',I,q⟩:=h;exact⟨σ',H',I.fh ok,q⟩
 |brk=>obtain⟨σ',H',I,q⟩:=h;exact⟨σ',H',I.fh ok,q⟩
 |cont=>obtain⟨σ',H',I,q⟩:=h;exact⟨σ',H',I.fh ok,q⟩
 |ret u=>obtain⟨v,σ',H',I,r,q⟩:=h;exact⟨v,σ',H',I.fh ok,r,q⟩
def CP {body:List Stmt}{h0:ExceptHandler}{hs:List ExceptHandler}{pos:Pos}{E':St->XK}(I:Inv X Y U H s)(hstk:X.stack=X.env::X.outer)(hfr:X.env.frame=some X.env.locals)
  (hb:∀ xe,Ez (X.fA Y xe) E'->PassesOwn (model X.prog X.w) X.A X.env xe->wpAny (model X.prog X.w) X.A (execs body X.env) (SP (X.fA Y xe) [] D) xe s)
  (hh:∀ (U:St) (H:Hp) (s:Shared) (e C:Addr) (dx:Option Addr) (fs:List (Str×V)) (T:Addr),Inv X Y U H s->H e=some (.exc C dx fs false)->X.s₀.heap.objs.size<=T->H T=none->(∀ p ∈ X.pn++Y,p.1≠T)->ue s.heap e T .none->E' U e H->
   wpAny (model X.prog X.w) X.A (handleBy (.ref e) X.env (h0::hs)) (SP X Y D) X.xe s):
  wpAny (model X.prog X.w) X.A (exec (.Try body (h0::hs) [] [] pos) X.env) (SP X Y D) X.xe s:=by
 refine wpAny_Try_except (wpAny_mono (hb (λu s1=>wpAny (model X.prog X.w) X.A (noteFrame u X.env) (λ_ s2=>wpAny (model X.prog X.w) X.A (setFlight u none) (λ_ s3=>wpAny (model X.prog X.w) X.A (handleBy u X.env (h0::hs)) (SP X Y D) X.xe s3) X.xe s2) X.xe s1) ?_ PassesOwn.looking) (λf s1 h1=>?_) λ_ _ z=>z)
 .intro σ' H' s' e C dx fs J sf he q;exact kJ (X:=X.fA Y _) J hstk hfr sf he λs2 T J2 _ hT hH hp st=>hh σ' H' s2 e C dx fs T (J2.fh I.ok) he hT hH hp st q
 .have h2:=SP.fh I.ok h1;cases f with
  |next=>exact wpAny_execs_nil h2
  |brk=>exact h2
  |cont=>exact h2
  |ret u=>exact h2
def oq {n x:Str}{np hpos:Pos}{b0:Stmt}{a9:List Stmt}{rest:List ExceptHandler}{i:Nat}{e C Ch T:Addr}{fs:List (Str×V)}{b:Bool}(I:Inv X Y U H s)(he:H e=some (.exc C dx fs false))
  (hT:X.s₀.heap.objs.size<=T) (hH:H T=none) (hp:∀ p ∈ X.pn++Y,p.1≠T) (st:ue s.heap e T .none) (c:bS X.K C) (ch:bS X.K Ch) (hsub:W.mroIn X.K C (.ref Ch)=some b) (hg:Gl X x) (hm:X.mg x=some (.ref Ch))
  (hN:X.N.Nodup) (hi:X.N[i]? =some n) (hn:X.env.scope.names.lookup n=some .local) (hdb:(x ==("__debug__":Str))=false)
  (yes:b=true->∀ s2,Inv (X.a9 (.ref e)) Y (U.set i (some (.ref e))) H s2->wpAny (model X.prog X.w) (X.A.mark (some (.ref e))) (execs (b0::a9) X.env)
   (SP (X.a9 (.ref e)) Y { nx:=λσ' H'=>D.nx (σ'.set i none) H',rt:=D.rt,bk:=λσ' H'=>D.bk (σ'.set i none) H',ct:=λσ' H'=>D.ct (σ'.set i none) H' }) (λ_ _=>False) s2)
  (no:b=false->wpAny (model X.prog X.w) X.A (handleBy (.ref e) X.env rest) (SP X Y D) X.xe s):
  wpAny (model X.prog X.w) X.A (handleBy (.ref e) X.env (.ExceptHandler (some (.Name x np)) (some n) (b0::a9) hpos::rest)) (SP X Y D) X.xe s:=by
 have I':=I.a9 (.ref e);refine wpAny_handleBy_cons (codeAny_handlers_test (ba (X:=X.a9 (.ref e)) I' hg hm ?_ hdb)) (by intro q;cases q);obtain⟨⟨vs,ho,hsz,h1⟩,z⟩:=id (I.hok e _ he);have L0:Looks (model X.prog X.w) s.heap (typeOf (.ref e)) (.ref C):=(Looks.ld ho).andThen .now;have L1:Looks (model X.prog X.w) s.heap (typeOf (.ref Ch)) (.type "type"):=looks_typeIn I.bw ch.mt;have L2':Looks (model X.prog X.w) s.heap (isInstance (.ref Ch) (.type "tuple")) false:=L1.andThen (Looks.of_pure tc_notTuple);have L3:Looks (model X.prog X.w) s.heap (isType (.ref Ch)) true:=by
  obtain⟨cd,rs,hcl,_⟩:=ch.mro;unfold W.clsIn at hcl
  split at hcl
  .rename_i ho';intro A' Q' E' s' k q;unfold isType loadHead;exact am (wpAny_loadPart (k _ _ (I.bw _ _ ho')) (ap q))
  .cases hcl
 have L4:Looks (model X.prog X.w) s.heap (isSubtype (.ref Ch) (.type "BaseException")) true:=looks_mroIn I.bw (ch.sub (by decide+kernel));have L5:Looks (model X.prog X.w) s.heap (isSubtype (.ref C) (.ref Ch)) b:=looks_mroIn I.bw hsub;have L6:Looks (model X.prog X.w) s.heap (isExcClass (.ref Ch)) true:=by
  unfold isExcClass;exact L3.andThen L4
 unfold excMatches;refine am (L2'.here ?_);rw[if_neg (by decide)];refine am (ap ?_);simp only[forIn_cons,forIn_nil];refine am (am (am (L6.here ?_)));rw[if_neg (by decide)];refine ap ?_;refine ap ?_;refine am (L0.here ?_);refine am (am (am (L5.here ?_)));cases b with
 |false=>
  rw[if_neg (by decide)];refine ap ?_;refine ap ?_;refine ap ?_;exact no rfl
 |true=>
  rw[if_pos rfl];refine ap ?_;refine ap ?_;refine ap ?_;refine codeAny_handlers_suite_as (sX st λh2 qN oth _ th2 _=>?_);have I2:Inv X Y U H { s with heap:=h2 }:=by
   refine Inv.turned (it:=T) (h':=h2) (t':=s.toks) I (λb o hb hq=>(oth b hb).trans hq) hH ?_ (.inr hT) (λy cc hc z=>?_) hp
   .intro z;obtain⟨m,⟨o,es,ep,ho',hd,_⟩,_⟩:=I.loc;obtain⟨_,_,oT,ts,_,_,_,_,hT2,hd2,_⟩:=st;rw[z,ho']at hT2;cases hT2;rw[hd]at hd2;cases hd2
   .obtain⟨v,o,ho',hd⟩:=I.cell y cc hc;obtain⟨_,_,oT,ts,_,_,_,_,hT2,hd2,_⟩:=st;rw[<-z,ho']at hT2;cases hT2;rw[hd]at hd2;cases hd2
  refine dI (X:=X.a9 (.ref e)) (I2.a9 (.ref e)) hN hi (.inl hn) (v:=.ref e) rfl (λs3 I3=>?_) (.inr hn);refine wpAny_mono (yes rfl s3 I3) (λf s4 h4=>?_) λ_ _ z=>z.elim
  cases f with
  |next=>
   obtain⟨σ',H',J,q⟩:=h4;exact eA (J.jg I.ok) hN hi hn λs5 J5=>⟨_,H',J5,q⟩
  |brk=>
   obtain⟨σ',H',J,q⟩:=h4;exact eA (J.jg I.ok) hN hi hn λs5 J5=>⟨_,H',J5,q⟩
  |cont=>
   obtain⟨σ',H',J,q⟩:=h4;exact eA (J.jg I.ok) hN hi hn λs5 J5=>⟨_,H',J5,q⟩
  |ret u=>
   obtain⟨v,σ',H',J,r,q⟩:=h4;exact eA (J.jg I.ok) hN hi hn λs5 J5=>⟨v,_,H',J5,r,q⟩
end
end L2
namespace L2
open PySem PySem.Spec PyProof.Rows
def xI:bootBuiltins "isinstance"=some (.builtin "isinstance"):=by decide+kernel
section
variable {X:Cx}
abbrev Gh (K:W.Frag):V->V->Hp->VK->Prop:=λx y H Q=>∃ p xs i v,x=.ref p/\y=.int i/\aP K H p xs/\0<=i/\xs[i.toNat]? =some v/\Q v H
def wA:El X (Gh X.K):=by
 intro Y s U H o i ov iv Q I ro ri h;obtain⟨p,xs,k,z,rfl,rfl,hq,h0,he,q⟩:=h;cases ro;obtain⟨t,rfl⟩:=ri;obtain⟨its,r,pl,hz⟩:=I.list hq;obtain⟨w,ew,rw'⟩:=r.get he;have hl:k.toNat<xs.length:=(sK.mp he).1;have hn:=dS;exact wpAny_getItem_list pl.isList h0 nofun (by simpa using ew) ⟨z,H,I,rw',q⟩
def jk {xs:List V}{us:List Value}(r:Vals xs us){j:Nat}(h:j<us.toArray.size):∃ x,xs[j]? =some x/\RelV x (us.toArray[j]):=by
 have hl:=r.length;have hj:j<us.length:=by simpa using h
 have e:xs[j]? =some xs[j]:=li nofun;obtain⟨u,h1,h2⟩:=r.get e;refine⟨_,e,?_⟩;rw[li hj]at h1;cases h1;simpa using h2
end
section
variable {U:St}{H:Hp}{Q:VK}{D:Ends}{K:W.Frag}
abbrev rC (x:V)(H:Hp)(R:Bool->Hp->Prop):Prop:=∃ k,x=.bl k/\R k H
def pF {α:Type}{xs:List α}{i:Int}(h0:0<=i)(h1:i<xs.length):∃ v,fH xs i=some v/\v ∈ xs:=by
 obtain⟨n,rfl⟩:=ss h0;have hn:n<xs.length:=by omega
 exact⟨xs[n],bL (li hn),List.getElem_mem hn⟩
end
section
variable {K:W.Frag}{g:TG}{tb:TS}{D:Ends}{U:St}{H:Hp}{tl:TE}{ta:TA}
end
def fits {n:Nat}(h:n<=1000):n<=ce:=Nat.le_of_lt (cS h)
section
variable {X:Cx}{H:Hp}{Q:VK}
end
section
variable {K:W.Frag}
end
section
variable {H H':Hp}{h c p:Addr}{m n:Int}{o:HO}
end
def EU (ns:List Int)(h:ns.length<=63):bH (ns.map V.int) none (some 63)=ns.map V.int:=by
 have e1:HT.aO (ns.map V.int).length 0 none=0:=rfl;have e2:HT.aO (ns.map V.int).length (ns.map V.int).length (some 63)=(ns.map V.int).length:=by
  show(if(63:Int)<0 then((63:Int)+((ns.map V.int).length:Int)).toNat else min (63:Int).toNat (ns.map V.int).length)=(ns.map V.int).length;rw[if_neg (by decide),cr];show min 63 ns.length=ns.length
  omega
 unfold bH;rw[e1,e2,drop_zero,Nat.sub_zero,List.take_length]
variable {ns:List Int}
def pZ {i:Nat}{x:V}(h:(ns.map V.int)[i]? =some x):∃ z,x=V.int z:=by
 rw[jp]at h;cases e:ns[i]? with
 |none=>rw[e]at h;cases h
 |some z=>rw[e]at h;exact⟨z,(Option.some.inj h).symm⟩
def u7 {i:Int}(h0:0<=i)(h1:i<ns.length):∃ z,fH (ns.map V.int) i=some (.int z):=by
 obtain⟨v,a,m⟩:=pF (xs:=ns.map V.int) h0 (by rw[cr];exact h1);obtain⟨z,_,rfl⟩:=List.mem_map.mp m;exact⟨z,a⟩
section
variable {H:Hp}{Q:VK}
end
section
variable {X:Cx}
end
abbrev DT (X:Cx)(scope:Scope)(cl:List (Str×Addr))(N:List Str)(s:Shared)(H:Hp)(fp:List Addr)(xe:JU):Cx:=
 { X with N:=N,s₀:=s,H₀:=H,env:=compEnvC scope cl s.heap.objs.size X.env,outer:=X.stack,stack:=X.stack,ex:=fp,fn:=λ_=>false,xe:=xe }
abbrev JD (X:Cx)(E:XK)(u:Value)(s':Shared):Prop:=∃ (σ':St) (H':Hp) (e C:Addr) (dx:Option Addr) (fs:List (Str×V)),u=.ref e/\Inv X [] σ' H' s'/\vI X.s₀.heap.objs.size X.pn H' s'.heap e/\H' e=some (.exc C dx fs false)/\E e H'
abbrev fB (X:Cx)(scope:Scope)(cl:List (Str×Addr))(N:List Str)(s:Shared)(H:Hp)(fp:List Addr)(E:XK):Cx:=DT X scope cl N s H fp (JD (DT X scope cl N s H fp λ_ _=>False) E)
variable {X:Cx}{scope:Scope}{cl:List (Str×Addr)}{s:Shared}{H:Hp}{fp:List Addr}{E:XK}
def Bs {N:List Str}:Ez (fB X scope cl N s H fp E) (λ_=>E):=λσ' H' s' e C dx fs I sf he q=>
 ⟨σ',H',e,C,dx,fs,rfl,⟨⟨I.ok.mod,I.ok.kind,I.ok.glob,I.ok.blt,I.ok.above,I.ok.inj,I.ok.has,I.ok.cab,I.ok.hd,I.ok.frames,I.ok.stk,I.ok.exf,I.ok.bs,I.ok.bsz,I.ok.noex,I.ok.exfs,I.ok.hR,I.ok.frf⟩,I.os,I.bare,I.base,I.loc,I.cell,I.free,I.freeC,I.pin,I.hok,I.len⟩,sf,he,q⟩
structure a4 (X:Cx) (scope:Scope) (cl:List (Str×Addr)) (xs:List Str) (fr:List Str) (sel:List Nat):Prop where
 clos:closureFor scope X.env=pure cl
 sub:∀ y c,cl.lookup y=some c->X.env.cells.lookup y=some c
 has:∀ y,((relabel scope X.env).names.lookup y=some .cell\/(relabel scope X.env).names.lookup y=some .free)->∃ c,cl.lookup y=some c
 kind:scope.kind=.function
 nocell:∀ y ∈ scope.names,y.2≠.cell
 names:∀ y ∈ scope.names,y.2=.local->scope.names.lookup y.1=some .local
 own:∀ x ∈ xs,scope.names.lookup x=some .local
 len:sel.length=fr.length
 out:∀ (j:Nat) (y:Str),fr[j]? =some y->∃ i,sel[j]? =some i/\X.N[i]? =some y/\X.env.scope.names.lookup y=some .cell/\(relabel scope X.env).names.lookup y=some .cell
 nd:(xs++fr).Nodup
abbrev fU (U:St)(sel:List Nat):St:=sel.map λi=>U.getD i none
abbrev LC (te:TE)(J:It)(σ₀:St)(H1:Hp)(Q:VK):Prop:=∀ D,H1 D=none->∃ W:Nat->Nat->St->Hp->Prop,(∃ m,W 0 m σ₀ (upd H1 D (.lst [])))/\∀ i m σ' H',W i m σ' H'->
 (J.stop i H'/\Q (.ref D) H')\/(J.go i H'/\∃ N:St->Hp->Prop,(∀ σ2 H2,N σ2 H2->∃ m',m'<m/\W (i+1) m' σ2 H2)/\
  ∀ x H'',J.yld i H' x H''->te (σ'.set 0 (some x)) H'' λv H3=>∃ zs,H3 D=some (.lst zs)/\zs.length<ce/\N (σ'.set 0 (some x)) (upd H3 D (.lst (zs++[v]))))
abbrev gate (env:Env):List Expr->Sem Bool
 | []=>pure true
 |c::_=>isTrue c env (eval c env)
variable {ifs:List Expr}{pos:Pos}
def rO {M:Model}{A:Around}{elt target iter:Expr}{it acc:Value}{env:Env}{Q:PySem.Fin->Shared->Prop}{E:JU}(hi:ifs.length<=1)
  (h:wpAny M A (pyNext it) (λr s1=>match r with
   |none=>Q (.done .next) s1
   |some v=>wpAny M A (letOwnedTupleGo target it v) (λ_ s2=>wpAny M A (assign target env v) (λ_ s3=>wpAny M A (gate env ifs) (λok s4=>
    (ok=true->wpAny M A (eval elt env) (λx s5=>wpAny M A (call (.builtin "list.append") [acc,x]) (λ_ s6=>wpAny M A (again (.compLoop (.ListComp elt [⟨target,iter,ifs,0⟩] scope pos) 0 it acc env)) Q E s6) E s5) E s4)/\
    (ok=false->wpAny M A (again (.compLoop (.ListComp elt [⟨target,iter,ifs,0⟩] scope pos) 0 it acc env)) Q E s4)) E s3) E s2) E s1) E s):
  wpAny M A (compTurn (.ListComp elt [⟨target,iter,ifs,0⟩] scope pos) 0 it acc env) Q E s:=by
 have key:∀ {g:Sem Bool}{K:Sem PySem.Fin}{s:Shared},wpAny M A g (λok s4=>
    (ok=true->wpAny M A (eval elt env) (λx s5=>wpAny M A (call (.builtin "list.append") [acc,x]) (λ_ s6=>wpAny M A K Q E s6) E s5) E s4)/\
    (ok=false->wpAny M A K Q E s4)) E s->wpAny M A (g >>= λok=>if ok=true then(eval elt env >>= λx=>call (.builtin "list.append") [acc,x] >>= λ_=>pure ()) >>= λ_=>K else K) Q E s:=λ{g K s} h=>by
  refine am (wpAny_mono h (λok s4 h4=>?_) λ_ _ e=>e);cases ok with
  |false=>exact h4.2 rfl
  |true=>exact am (am (wpAny_mono (h4.1 rfl) (λx s5 h5=>am (wpAny_mono h5 (λ_ s6 h6=>ap h6) λ_ _ e=>e)) λ_ _ e=>e))
 match ifs,hi with
 | [],_=>
  rw[compTurn_list1];refine am (wpAny_standAt (am (wpAny_mono h (λr s1 h1=>?_) λ_ _ e=>e)));cases r with
  |none=>exact ap h1
  |some v=>
   refine am (wpAny_mono h1 (λ_ s2 h2=>am (wpAny_mono h2 (λ_ s3 h3=>?_) λ_ _ e=>e)) λ_ _ e=>e);exact key (g:=pure true) h3
 | [c],_=>
  unfold compTurn;simp only[List.getElem?_cons_zero,List.getElem?_cons_succ,List.getElem?_nil];dsimp only[forIn,List.forIn',List.forIn'.loop,forIn'];rw[if_neg (by decide),if_neg (by decide)];refine am (wpAny_standAt (am (wpAny_mono h (λr s1 h1=>?_) λ_ _ e=>e)));cases r with
  |none=>exact ap h1
  |some v=>
   refine am (wpAny_mono h1 (λ_ s2 h2=>am (wpAny_mono h2 (λ_ s3 h3=>?_) λ_ _ e=>e)) λ_ _ e=>e);refine key ?_;rw[if_pos rfl];refine am (am (wpAny_mono h3 (λok s4 h4=>ap ?_) λ_ _ e=>e));exact ap h4
abbrev LCg (tg:TG)(tc:TT)(te:TE)(J:It)(σ₀:St)(H1:Hp)(Q:VK):Prop:=∀ D,H1 D=none->∃ W:Nat->Nat->St->Hp->Prop,(∃ m,W 0 m σ₀ (upd H1 D (.lst [])))/\∀ i m σ' H',W i m σ' H'->
 (J.stop i H'/\Q (.ref D) H')\/(J.go i H'/\∃ N:St->Hp->Prop,(∀ σ2 H2,N σ2 H2->∃ m',m'<m/\W (i+1) m' σ2 H2)/\
  ∀ x H'',J.yld i H' x H''->tg x σ' H'' λσ2 H2=>tc σ2 H2 λb H3=>(b=true->te σ2 H3 λv H4=>∃ zs,H4 D=some (.lst zs)/\zs.length<ce/\N σ2 (upd H4 D (.lst (zs++[v]))))/\(b=false->N σ2 H3))
abbrev yes:TT:=λ_ H Q=>Q true H
variable {te:TE}
def LC.g {J:It}{σ₀:St}{H1:Hp}{Q:VK}(h:LC te J σ₀ H1 Q):LCg (gc 0) yes te J σ₀ H1 Q:=λD hD=>by
 obtain⟨W,w0,turn⟩:=h D hD;refine⟨W,w0,λi m σ' H' w=>?_⟩;rcases turn i m σ' H' w with z|⟨go,N,hN,step⟩
 .exact .inl z
 .exact .inr ⟨go,N,hN,λx H'' y=>⟨λ_=>step x H'' y,λe=>nomatch e⟩⟩
abbrev Hk (X:Cx)(ifs:List Expr)(tc:TT):Prop:=ifs.length<=1/\∀ (Y:JV) (s:Shared) (U:St) (H:Hp) (Q:Bool->Hp->Prop),Inv X Y U H s->tc U H Q->wpAny (model X.prog X.w) X.A (gate X.env ifs) (TP X Y U Q) X.xe s
def lS:Hk X [] yes:=⟨Nat.zero_le _,λY s U H Q I q=>ap ⟨H,I,q⟩⟩
def rQ {c:Expr}{tc:TT}(h:PT X c tc):Hk X [c] tc:=⟨re _,h⟩
abbrev ou (xs:List Str):St:=xs.map λ_=>none
abbrev IV (wi:TI)(te:TE)(sel:List Nat):TE:=λU H Q=>wi U H λJ H1=>LC te J (none::fU U sel) H1 Q
abbrev Gf (wi:TI)(tg:TG)(tc:TT)(te:TE)(xs:List Str)(sel:List Nat):TE:=λU H Q=>wi U H λJ H1=>LCg tg tc te J (ou xs++fU U sel) H1 Q
variable {xs fr:List Str}{sel:List Nat}{Y:JV}{U:St}
section
variable {X:Cx}
def Un.sameBut {fs ex:List Addr}{H':Hp}{h h1 h2:Heap}{C:Addr}(u:Un fs ex H H' h h1)(hs:Heap.SameBut C h1 h2)(hC:h.objs.size<=C):Un fs ex H H' h h2:=by
 have ne:∀ b o,h.get? b=some o->b≠C:=λb o e=>pi (ol (u8 e) hC)
 refine⟨λb o e n hb hx=>(hs.2 b (ne b o e)).trans (u.keep b o e n hb hx),λb o e n hb hx=>?_,u.free,λb o e hx=>?_,u.tups,u.frzs,u.tbls⟩
 .obtain⟨sl,q⟩:=u.slot b o e n hb hx;exact⟨sl,(hs.2 b (ne b o e)).trans q⟩
 .obtain⟨o',q⟩:=u.there b o e hx;exact⟨o',(hs.2 b (ne b o e)).trans q⟩
def pe {h':Heap}{tk:Nat}{m':JW}
  (S:a4 X scope cl xs fr sel) (I:Inv X Y U H s) (f2:∀ b ∈ fp,ip X Y H b) (fo:∀ b ∈ fp,b<s.heap.objs.size) (hns:h'.Ns s.heap.objs.size m') (keep:∀ b o,s.heap.get? b=some o->h'.get? b=some o):
  Inv (fB X scope cl (xs++fr) s H fp E) Y (ou xs++fU U sel) H { s with heap:=h',toks:=tk }:=by
 have stk:∀ b,b≠X.env.locals->b ∉ X.fs->b ∉ mi X.stack:=λb h1 h2 hb=>(lw.mp (I.hX b hb)).elim h1 h2
 refine⟨⟨I.ok.mod,S.kind,I.ok.glob,I.ok.blt,re _,λy z c h1 h2=>I.ok.inj y z c (S.sub y c h1) (S.sub z c h2),λy hy=>S.has y hy,(λy c h=>nomatch h),I.ok.hd,I.ok.frames,.inl rfl,λb hb=>⟨pi (fo b hb),λy c h=>(f2 b hb).2.2.2.2.1 y c (S.sub y c h)⟩,I.bs,
  Nat.le_trans I.ok.bsz I.sz,λb o e hb=>?_,λb hb=>stk b (f2 b hb).2.1 (f2 b hb).2.2.1,I.stack,I.mY⟩,
  rfl,I.bare,Un.kept keep,⟨m',hns,λi y v e1 e2 e3=>?_⟩,λy c h=>?_,I.hok.fresh (re _),λy c h=>I.freeC y c (S.sub y c h),λp hp=>?_,I.hok.kept keep,?_⟩
 .rcases(f2 b hb).2.2.2.1 with z|z
  .exact I.ok.noex b o e z
  .exact absurd (ol (ol (u8 e) I.ok.bsz) z) (Nat.lt_irrefl _)
 .have hln:(ou xs).length=xs.length:=cr ..
  by_cases hlt:i<xs.length
  .rw[getElem?_append_left (by rw[hln];exact hlt)]at e2;unfold ou at e2;rw[jp,li hlt]at e2;cases e2
  .obtain⟨j,rfl⟩:∃ j,i=xs.length+j:=⟨i-xs.length,by omega⟩;have e1':fr[j]? =some y:=by
    have e1:(xs++fr)[xs.length+j]? =some y:=e1;rw[getElem?_append_right nofun,show xs.length+j-xs.length=j by omega]at e1;exact e1
   obtain⟨i,hi,hN,k1,k2⟩:=S.out j y e1';have e2':(fU U sel)[j]? =some (some v):=by
    rw[getElem?_append_right (by rw[hln];omega),hln,show xs.length+j-xs.length=j by omega]at e2;exact e2
   have e4:U[i]? =some (some v):=by
    unfold fU at e2';rw[jp,hi]at e2';have e5:U.getD i none=some v:=Option.some.inj e2';rw[List.getD_eq_getElem?_getD]at e5;cases e6:U[i]? with
    |none=>rw[e6]at e5;cases e5
    |some z=>rw[e6]at e5;exact congrArg some e5
   obtain⟨m,hn,hl⟩:=I.loc;obtain⟨u,r,l⟩:=hl i y v hN e4 (.inr (.inl k1));refine⟨u,r,.inr ⟨.inl k2,?_⟩⟩;rcases l with⟨hk,_⟩|⟨_,c,hc,o,ho,hd⟩
   .have hk':X.env.scope.names.lookup y=some .local:=hk;rw[k1]at hk';cases hk'
   .obtain⟨c',hc'⟩:=S.has y (.inl k2);have:=(S.sub y c' hc').symm.trans hc;cases this;exact⟨c,hc',o,keep c o ho,hd⟩
 .obtain⟨v,o,ho,hd⟩:=I.cell y c (S.sub y c h);exact⟨v,o,keep c o ho,hd⟩
 .obtain⟨e,n,ne,nf,d⟩:=I.pin p hp;exact⟨keep p.1 p.2 e,n,pi (u8 e),stk p.1 ne nf,d⟩
 .show(ou xs++fU U sel).length=(xs++fr).length;unfold fU ou;simp[S.len]
structure lh (X:Cx) (U:St) (E:XK):Prop where
 xok:∀ (H:Hp) (s:Shared) (e C:Addr) (dx:Option Addr) (fs:List (Str×V)),Inv X [] U H s->vI X.s₀.heap.objs.size X.pn H s.heap e->H e=some (.exc C dx fs false)->E e H->X.xe (.ref e) s
 stk:∃ e0 o0 L,X.stack=e0::o0/\e0.frame=some L/\X.env.frame=some L
abbrev Jm (X:Cx)(U:St)(e:Expr)(t:TE):Prop:=∀ (Y:JV) (s:Shared) (H:Hp) (Q:VK),Inv X Y U H s->t U H Q->wpAny (model X.prog X.w) X.A (eval e X.env) (EP X Y U Q) X.xe s
def rK {s3:Shared}{H3:Hp}{D:Addr}{use:Option (Value->Sem Unit)}{P:JU}(hx:lh X U E)
  (I3:Inv X Y U H3 s3) (f3:∀ b ∈ fp,ip X Y H3 b) (u:Value) (s':Shared) (h:(fB X scope cl (xs++fr) s3 H3 fp E).xe u s'):
  notedBy (model X.prog X.w) X.A (compEnvC scope cl s3.heap.objs.size X.env) (λx s2=>compPost (model X.prog X.w) X.A X.xe use P (.ref D) s3.heap.objs.size (.error x) s2) u s':=by
 obtain⟨σ',H',e,C,dx,fs,rfl,I,sf,he,q⟩:=h;obtain⟨e0,o0,L,hs,hf0,hf⟩:=hx.stk;refine nR (X:=DT X scope cl (xs++fr) s3 H3 fp λ_ _=>False) (env:=compEnvC scope cl s3.heap.objs.size X.env) I hs hf0 hf sf he λh1 T I1 hT hH hp st=>?_
 obtain⟨m,hn,_⟩:=I1.loc;refine⟨m,hn,λh2 hs2 cenv _=>?_⟩;have fC:H' s3.heap.objs.size=none:=I1.free;have J:Inv X [] U H' { s' with heap:=h2 }:=by
  refine I3.qv.sW (ch:=fp) I1.os (I1.base.sameBut hs2 (re _)) (λb ob eb=>?_) I1.bare λb hb=>⟨(f3 b hb).2.2.2.1,(f3 b hb).2.1,(f3 b hb).2.2.2.2.1,λp hp=>(f3 b hb).2.2.2.2.2 p (by simpa using .inl (by simpa using hp))⟩
  refine(I1.hok b ob eb).eO (λc w' hc' q'=>(hs2.2 c ?_).trans q') (λ_ q'=>q') λ_ _ q'=>q'
  intro z;rcases hc' with z2|z2
  .rw[z2]at z;rw[z,fC]at eb;cases eb
  .rw[z,fC]at z2;cases z2
 obtain⟨oe,vs,oT,ts,he1,hd1,h11,hTe,hoT,hdT,h3⟩:=id st;obtain⟨n1,n2⟩:=I1.xa hoT hdT;have neC:e≠s3.heap.objs.size:=λz=>by rw[z,fC]at he;cases he
 have e2:=(hs2.2 e neC).trans he1;have t2:=(hs2.2 T n1).trans hoT;have hz:3<ts.size:=(Array.getElem?_eq_some_iff.mp h3).1;unfold PySem.passOn;refine am (bd e2 hd1 h11 ?_);rw[if_neg (show ¬ ((Value.ref T ==Value.none)=true) from by simp)];have fly:wpAny (model X.prog X.w) X.A (setFlight (.ref e) cenv.frame) (λ_ s3=>wpAny (model X.prog X.w) X.A (throw (Value.ref e):Sem Value) (λ_ _=>False) X.xe s3) X.xe { s' with heap:=h2 }:=by
  unfold setFlight;refine am (bd e2 hd1 h11 ?_);rw[if_pos (show(Value.ref T != Value.none)=true from by simp)];refine wpAny_setField t2 hdT hz (wpAny_throw ?_);have other:∀ b,b≠T->(h2.update T (Obj.mapFields (·.setIfInBounds 3 (cenv.frame.elim Value.none λf=>rawInt f)))).get? b=h2.get? b:=λb hb=>Heap.get?_update_other _ _ (Ne.symm hb)
  have self':=Heap.get?_update_self (Obj.mapFields (·.setIfInBounds 3 (cenv.frame.elim Value.none λf=>rawInt f))) t2 (Obj.isFreed_of_fields (Obj.data_mapFields hdT _));obtain⟨k1,k2⟩:=J.xa t2 hdT;have hT':X.s₀.heap.objs.size<=T:=Nat.le_trans I3.sz hT;refine hx.xok H' _ e C dx fs (J.turned (it:=T) (t':=s'.toks) (λb o hb hq=>(other b hb).trans hq) hH k1 (.inr hT') k2 λp hpp=>hp p (show p ∈ X.pn by simpa using hpp)) (.inr ⟨T,hT',hH,hp,_,⟨oe,vs,_,_,(other e (Ne.symm hTe)).trans e2,hd1,h11,hTe,self',Obj.data_mapFields hdT _,by simp[hz];rfl⟩⟩) he q
 first
  |exact am fly
  |exact am (ap (am fly))
def lj {elt iter tgt:Expr}{wi:TI}{tg:TG}{tc:TT}(hc:X.calm=true)(hx:lh X U E)(S:a4 X scope cl xs fr sel)(hi:PI X tgt iter wi)
  (hg:∀ (s:Shared) (H:Hp) (fp:List Addr),PG (fB X scope cl (xs++fr) s H fp E) tgt tg) (ht:∀ (s:Shared) (H:Hp) (fp:List Addr),Hk (fB X scope cl (xs++fr) s H fp E) ifs tc)
  (he:∀ (s:Shared) (H:Hp) (fp:List Addr),PE (fB X scope cl (xs++fr) s H fp E) elt te) (hs:∀ x,foldedSetIterable iter X.env x=pure x):Jm X U (.ListComp elt [⟨tgt,iter,ifs,0⟩] scope pos) (Gf wi tg tc te xs sel):=by
 intro Y s H Q I h;rw[eval_ListComp];refine wpAny_comprehension_free (use:=none) rfl hs S.clos S.kind S.names ?_;refine aC (hi Y s U H _ I h) λv s1 h1=>aC h1 λitv s2 h2=>?_
 obtain⟨it,fp,tn,J,H2,e,I2,T,qN,f2,h2⟩:=h2;subst e;refine wpAny_newObj_type ?_;have hD:H2 s2.heap.objs.size=none:=I2.hok.fresh (re _);have I3:Inv X Y U (upd H2 s2.heap.objs.size (.lst [])) { s2 with heap:=s2.heap.push { cls:=.type "list",dict:=none,data:=.seq ([]:List Value).toArray } }:=
  I2.laid (t':=s2.toks) (λb u e=>tz _ e) (re _) ⟨Nat.zero_le _,[],0,.nil,ul _ rfl⟩
 have fo2:∀ b ∈ fp,b<s2.heap.objs.size:=λb hb=>by
  obtain⟨o,ho,_⟩:=T.obj _ _ qN b hb;exact u8 ho
 have f3:∀ b ∈ fp,ip X Y (upd H2 s2.heap.objs.size (.lst [])) b:=λb hb=>⟨by rw[ag (pi (fo2 b hb))];exact(f2 b hb).1,(f2 b hb).2⟩
 have st3:tn 0 (s2.heap.push { cls:=.type "list",dict:=none,data:=.seq ([]:List Value).toArray }):=T.keep _ _ _ qN λb hb o e=>tz _ e
 have fo3:∀ b ∈ fp,b<(s2.heap.push { cls:=.type "list",dict:=none,data:=.seq ([]:List Value).toArray }).objs.size:=λb hb=>by
  rw[Heap.size_push];exact Nat.lt_succ_of_lt (fo2 b hb)
 obtain⟨W,⟨m0,w0⟩,turn⟩:=h2 _ hD;generalize s2.heap.objs.size=D at*;generalize hs3:({ s2 with heap:=s2.heap.push { cls:=.type "list",dict:=none,data:=.seq ([]:List Value).toArray } }:Shared)=s3 at*;have st3':tn 0 s3.heap:=by rw[<-hs3];exact st3
 have fo3':∀ b ∈ fp,b<s3.heap.objs.size:=by rw[<-hs3];exact fo3
 refine wpAny_newFunctionEnv S.nocell (by intro y hy;simp at hy) (λh' hns hsb=>?_) S.kind;have keep:∀ b o,s3.heap.get? b=some o->h'.get? b=some o:=λb o e=>(hsb.2 b (pi (u8 e))).trans (tz _ e)
 have I4:=pe (E:=E) (tk:=s3.toks+([]:List (Str×Value)).length) S I3 f3 fo3' hns keep;have st4:tn 0 h':=T.keep _ _ _ st3' λb hb o e=>keep b o e
 have stat:∀ {H':Hp},(∀ b ∈ fp,H' b=none)->∀ b ∈ fp,ip (fB X scope cl (xs++fr) s3 (upd H2 D (.lst [])) fp E) Y H' b:=λ{H'} hn b hb=>
  ⟨hn b hb,pi (fo3' b hb),λz=>(lw.mp (I3.hX b z)).elim (f3 b hb).2.1 (f3 b hb).2.2.1,.inl hb,λy c hy=>(f3 b hb).2.2.2.2.1 y c (S.sub y c hy),λp hp=>(f3 b hb).2.2.2.2.2 p hp⟩
 have loop:codeAny (model X.prog X.w) X.A (.compLoop (.ListComp elt [⟨tgt,iter,ifs,0⟩] scope pos) 0 (.ref it) (.ref D) (compEnvC scope cl s3.heap.objs.size X.env))
   (compPost (model X.prog X.w) X.A X.xe none (EP X Y U Q) (.ref D) s3.heap.objs.size) { s3 with heap:=h',toks:=s3.toks+([]:List (Str×Value)).length }:=by
  refine codeAny_loop rfl (λn s'=>∃ i σ' H',Inv (fB X scope cl (xs++fr) s3 (upd H2 D (.lst [])) fp E) Y σ' H' s'/\tn i s'.heap/\(∀ b ∈ fp,H' b=none)/\W i n σ' H') (λn s5 hI=>?_) m0 ⟨0,_,_,I4,st4,λb hb=>(f3 b hb).1,w0⟩;show wpAny _ _ ((compTurn (.ListComp elt [⟨tgt,iter,ifs,0⟩] scope pos) 0 (.ref it) (.ref D) (compEnvC scope cl s3.heap.objs.size X.env)).onRaise (λx=>do noteFrame x (compEnvC scope cl s3.heap.objs.size X.env);theTreesLotGoes x)) _ _ s5;refine wpAny_noted ?_;refine rO (ht s3 (upd H2 D (.lst [])) fp).1 ?_;have bad:=rK (scope:=scope) (cl:=cl) (xs:=xs) (fr:=fr) (P:=EP X Y U Q) (use:=none) (D:=D) hx I3 f3;obtain⟨i,σ5,H5,I5,st5,fr5,w5⟩:=hI;rcases turn i n σ5 H5 w5 with⟨stop,q⟩|⟨go,Nn,hN,step⟩
  .refine aC (T.done (fB X scope cl (xs++fr) s3 (upd H2 D (.lst [])) fp E) rfl rfl rfl hc i _ s5 σ5 H5 _ I5 (stat fr5) st5 stop) λr s6 ⟨hr,I6⟩=>?_
   subst hr;obtain⟨m,hn,_⟩:=I6.loc;refine⟨m,hn,λh'' hs''=>⟨.ref D,H5,I3.sW (ch:=fp) I6.os (I6.base.sameBut hs'' (re _)) (λb ob e=>?_) I6.bare λb hb=>⟨(f3 b hb).2.2.2.1,(f3 b hb).2.1,(f3 b hb).2.2.2.2.1,(f3 b hb).2.2.2.2.2⟩,rfl,q⟩⟩;refine(I6.hok b ob e).eO (λc w' hc' q'=>(hs''.2 c ?_).trans q') (λ_ q'=>q') λ_ _ q'=>q'
   have fC:H5 s3.heap.objs.size=none:=I6.free;intro z;rcases hc' with z2|z2
   .rw[z2]at z;rw[z,fC]at e;cases e
   .rw[z,fC]at z2;cases z2
  .have fin:∀ {σ8:St}{H10:Hp}{s10:Shared},Inv (fB X scope cl (xs++fr) s3 (upd H2 D (.lst [])) fp E) Y σ8 H10 s10/\tn (i+1) s10.heap/\(∀ b ∈ fp,H10 b=none)->Nn σ8 H10->∃ m',m'<n/\∃ i σ' H',Inv (fB X scope cl (xs++fr) s3 (upd H2 D (.lst [])) fp E) Y σ' H' s10/\tn i s10.heap/\(∀ b ∈ fp,H' b=none)/\W i m' σ' H':=λ⟨I,t,f⟩ nn=>by
    obtain⟨m',hm,w10⟩:=hN _ _ nn;exact⟨m',hm,i+1,_,_,I,t,f,w10⟩
   refine aC (T.item (fB X scope cl (xs++fr) s3 (upd H2 D (.lst [])) fp E) rfl rfl rfl hc i _ s5 σ5 H5 _ I5 (stat fr5) st5 go) λr s6 ⟨u,hr,h6⟩=>?_
   subst hr;refine aC h6 λ_ s7 ⟨xv,H7,I7,r7,y7,st7,fr7⟩=>?_
   have I7':=I7.pinned (stat fr7) (T.obj _ _ st7);refine wpAny_mono (hg s3 _ fp _ s7 σ5 H7 xv u _ I7' r7 (step xv _ y7)) (λ_ s8 ⟨σ8,H8,I8,q8⟩=>?_) bad;refine wpAny_mono ((ht s3 _ fp).2 _ s8 σ8 H8 _ I8 q8) (λok s9 ⟨H9,I9,q9⟩=>?_) bad;have back:∀ {H10:Hp}{s10:Shared},Inv (fB X scope cl (xs++fr) s3 (upd H2 D (.lst [])) fp E) _ σ8 H10 s10->Inv (fB X scope cl (xs++fr) s3 (upd H2 D (.lst [])) fp E) Y σ8 H10 s10/\tn (i+1) s10.heap/\(∀ b ∈ fp,H10 b=none):=λ{H10 s10} I10=>⟨I10.dN,T.keep _ _ _ st7 λb hb o e=>(I10.pin (b,o) (io _ (io _ (bj hb e)))).1,λb hb=>by
    obtain⟨o,e,d⟩:=T.obj _ _ st7 b hb;exact(I10.pin (b,o) (io _ (io _ (bj hb e)))).2.1⟩
   refine⟨λek=>?_,λek=>ap ⟨rfl,fin (back I9) (q9.2 ek)⟩⟩;refine wpAny_mono (he s3 _ fp _ s9 _ _ _ I9 (q9.1 ek)) (λuv s10 ⟨vv,H10,I10,r10,zs,hz,hzl,n10⟩=>?_) bad;refine wpAny_mono (gM (X:=fB X scope cl (xs++fr) s3 (upd H2 D (.lst [])) fp E) _ s10 _ H10 (.ref D) [vv] (.ref D) [uv] (λ_ H'=>H'=upd H10 D (.lst (zs++[vv]))) I10 rfl (.cons r10 .nil) ⟨D,zs,vv,rfl,rfl,hz,hzl,rfl⟩) (λ_ s11 ⟨_,H11,I11,_,e11⟩=>?_) bad;subst e11;exact ap ⟨rfl,fin (back I11) n10⟩
 exact codeAny_compStart_list loop (T.self _ 0 _ _ _ st4 loop)
def lQ {x:Str}{px:Pos}(S:a4 X scope cl [x] fr sel):PG (fB X scope cl ([x]++fr) s H fp E) (.Name x px) (gc 0):=gr S.nd rfl (.inl (lookup_relabel_local (S.own x (lv ..)))) (.inr (lookup_relabel_local (S.own x (lv ..))))
abbrev JE (wi:TI):TI:=λU H R=>∃ R0:It->Hp->Prop,wi U H R0/\∀ J H,R0 J H->R J H
def PI.up {tg iter:Expr}{wi:TI}(h:PI X tg iter wi):PI X tg iter (JE wi):=λY s U H R I ⟨R0,q,m⟩=>
 aC (h Y s U H R0 I q) λv s1 h1=>wpAny_mono h1 (λitv s2 ⟨it,fp,tn,J,H',e,I,T,t0,f,r⟩=>⟨it,fp,tn,J,H',e,I,T,t0,f,m _ _ r⟩) λ_ _ e=>e
def vj {elt iter:Expr}{x:Str}{px:Pos}{wi:TI}(hc:X.calm=true)(hx:lh X U E)(S:a4 X scope cl [x] fr sel)(hi:PI X (.Name x px) iter wi)
  (he:∀ (s:Shared) (H:Hp) (fp:List Addr),PE (fB X scope cl (x::fr) s H fp E) elt te) (hs:∀ x,foldedSetIterable iter X.env x=pure x):Jm X U (.ListComp elt [⟨.Name x px,iter,[],0⟩] scope pos) (IV wi te sel):=λY s H Q I h=>
 lj (tg:=gc 0) hc hx S hi.up (λs H fp=>lQ S) (λ_ _ _=>lS) he hs Y s H Q I ⟨_,h,λ_ _ q=>q.g⟩
end
section
variable {U:St}{H:Hp}{Q:VK}{te tl:TE}{ta:TA}{sel:List Nat}{σ₀ rest:St}{K:W.Frag}
end
def c7 {env:Env}:∀ {names:List (Str×NameKind)}{y:Str}{k':NameKind},(names.map λ(n,k)=>if(k ==NameKind.free&&env.scope.kind ==.function&&env.kindOf n ==some .cell) then(n,NameKind.cell) else(n,k)).lookup y=some k'->∃ k,(y,k) ∈ names/\(k'=k\/(k=.free/\k'=.cell))
 | [],_,_,h=>by simp at h
 |(n,k)::r,y,k',h=>by
  rw[map_cons,lookup_cons]at h
  by_cases hc:(k ==NameKind.free&&env.scope.kind ==.function&&env.kindOf n ==some .cell)=true
  .simp only[hc,if_true]at h
   by_cases e:y=n
   .subst e;simp at h;simp at hc;exact⟨k,lv,.inr ⟨hc.1.1,h.symm⟩⟩
   .rw[show(y ==n)=false from beq_eq_false_iff_ne.mpr e]at h;obtain⟨k2,m,q⟩:=c7 (env:=env) h;exact⟨k2,f8 _ m,q⟩
  .rw[Bool.not_eq_true]at hc;simp only[hc,Bool.false_eq_true,if_false]at h
   by_cases e:y=n
   .subst e;simp at h;exact⟨k,lv,.inl h.symm⟩
   .simp only[show(y ==n)=false from beq_eq_false_iff_ne.mpr e]at h;obtain⟨k2,m,q⟩:=c7 (env:=env) h;exact⟨k2,f8 _ m,q⟩
section
variable {K:W.Frag}
end
section
variable {K:W.Frag}{H:Hp}
end
section
variable {U:St}{H:Hp}{Q:VK}
end
abbrev notStar:Expr->Bool
 | .Starred ..=>false
 |_=>true
variable {es:List Expr}
def af {e:Expr}{env:Env}(h:notStar e=true):bv (e::es) env=(false,eval e env)::bv es env:=by
 cases e<;>first|rfl|cases h
def ke {e:Expr}{t:TA}(ha:PE X e te)(hr:PA X es t)(h:notStar e=true:=by rfl):PA X (e::es) (Bq te t):=zU ha hr (af h)
section
variable {X:Cx}{Y:JV}{U:St}{H:Hp}{s:Shared}{h':Heap}
def Inv.vC {t':Nat}{ch:List Addr}{a:Addr}{o:HO}(I:Inv X Y U H s)(k:∀ b u,b ∉ ch->s.heap.get? b=some u->h'.get? b=some u) (hf:∀ b ∈ ch,ip X Y H b)
  (hp:s.heap.objs.size<=a) (new:ax X.prog X.w (upd H a o) h' a o):Inv X Y U (upd H a o) { s with heap:=h',toks:=t' }:=by
 have hn:H a=none:=I.hok.fresh hp;have nch:∀ b u,H b=some u->b ∉ ch:=λb u e z=>by rw[(hf b z).1]at e;cases e
 refine I.step (g':=s.gens) (d':=s.drawn) (ch:=ch) (λb hb=>?_) (λb o _ _ hc e _=>k b o hc e) (λb o _ _ hc e _=>⟨o.slots,k b o hc e⟩) (λb o hc e n=>?_)
  (λb o hc e=>⟨o,k b o hc e⟩) (λb xs e=>?_) (λb ob u e=>?_) (λb ps e=>?_) (λm hm=>?_) (λb u e=>?_) I.bare
 .obtain⟨_,f1,_,f3,f4,f5⟩:=hf b hb;exact⟨f3,f1,f4,f5⟩
 .rw[ag (pi (ol (u8 e) hp))];exact n
 .rw[ag (aM e hn)];exact e
 .rw[ag (aM e hn)];exact e
 .exact⟨#[],by rw[ag (aM e hn),e];simp⟩
 .obtain⟨o,es,ep,ho,r⟩:=hm;exact⟨o,es,ep,k _ o (λz=>(hf _ z).2.1 rfl) ho,r⟩
 .by_cases hb:b=a
  .subst hb;rw[ar]at e;cases e;exact new
  .rw[ag hb]at e;refine(I.hok b u e).eO (λc v hc q=>k c v ?_ q) (λc q=>by rw[ag (aM q hn)];exact q) λc xs q=>by rw[ag (aM q hn)];exact q
   rcases hc with rfl|hc
   .exact nch _ _ e
   .exact nch _ _ hc
end
abbrev FV (l:Addr):It:=
 ⟨λi H=>∃ xs x,H l=some (.lst xs)/\xs[i]? =some x,λi H x H'=>∃ T y,H T=none/\x=.ref T/\H'=upd H T (.tup [.int i,y])/\∀ xs,H l=some (.lst xs)->xs[i]? =some y,λi H=>∃ xs,H l=some (.lst xs)/\xs.length<=i⟩
variable {elts:List Expr}
def uI {P:Program}{w:World}{K:W.Frag}{k:Nat}(l e it:Addr)(hei:e≠it):
  Turn P w K (.Tuple elts k pos) (FV l) [e,it] e (λi h=>(∃ old,IsEnum h e it ((i:Nat):Int) old)/\h.IsListIter it l i) where
 mem:=by simp
 obj:=λi h st b hb=>by
  obtain⟨⟨old,he⟩,hit⟩:=st;rcases lw.mp hb with rfl|hb
  .exact⟨_,he,λv z=>by
    have z':Data.fields _=Data.cell v:=z;cases z'⟩
  .have e':b=it:=by simpa using hb
   subst e';obtain⟨o,e,c,d⟩:=hit;exact⟨o,e,λv z=>by rw[d]at z;cases z⟩
 keep:=λi h h' st k=>by
  obtain⟨⟨old,he⟩,hit⟩:=st;exact⟨⟨old,k e (by simp) _ he⟩,hit.at λo q=>k it (by simp) o q⟩
 item:=by
  intro X hP hw hK hc i Y s U H E I hf st hg;subst hP hw hK;obtain⟨xs,x,hq,hx⟩:=hg;obtain⟨⟨old,he⟩,hit⟩:=st;obtain⟨its,rv,p,hz⟩:=I.list (aP.of hq);obtain⟨u,hu,ru⟩:=rv.get hx;have heN:H e=none:=(hf e (by simp)).1;have hes:e≠s.heap.objs.size:=pi (u8 he);obtain⟨oi,hoi,_⟩:=id hit;have his:it≠s.heap.objs.size:=pi (u8 hoi);refine wpAny_pyNext_enum_item he hit p.isList (x:=u) (by simpa using hu) hei λh1 heo hit1 ht1 hz1 hk1=>?_
  have I1:Inv X Y U (upd H s.heap.objs.size (.tup [.int i,x])) { s with heap:=h1,toks:=s.toks+1 }:=
   I.vC (ch:=[e,it]) (λb o hb q=>hk1 b o (λz=>hb (by simp[z])) (λz=>hb (by simp[z])) q) hf (re _)
    ⟨fits (pc rfl),[.int i s.toks,u],.cons ⟨_,rfl⟩ (.cons ru .nil),⟨_,ht1,rfl,_,rfl⟩⟩
  refine⟨_,rfl,wpAny_letOwnedTupleGo_enum heo λh2 he2 hs2=>?_⟩;obtain⟨f0,f1,f2,f3,f4,f5⟩:=hf e (by simp);have I2:=I1.turned (h':=h2) (t':=s.toks+1) (it:=e) (λb o hb q=>(hs2.2 b hb).trans q) (by rw[ag hes];exact heN) f1 f3 f4 f5;refine⟨.ref s.heap.objs.size,_,I2,rfl,⟨_,x,I.hok.fresh (re _),rfl,rfl,λys hy=>?_⟩,⟨⟨_,by simpa using he2⟩,hit1.at λo q=>(hs2.2 it hei.symm).trans q⟩,λb hb=>?_⟩
  .rw[hq]at hy;cases hy;exact hx
  .have hb':b≠s.heap.objs.size:=by
    rcases lw.mp hb with rfl|hb
    .exact hes
    .have e':b=it:=by simpa using hb
     subst e';exact his
   rw[ag hb'];exact(hf b hb).1
 done:=by
  intro X hP hw hK hc i Y s U H E I hf st hg;subst hP hw hK;obtain⟨xs,hq,hx⟩:=hg;obtain⟨⟨old,he⟩,hit⟩:=st;obtain⟨its,rv,p,hz⟩:=I.list (aP.of hq);obtain⟨f0,f1,f2,f3,f4,f5⟩:=hf it (by simp);have hl:=rv.length;exact wpAny_pyNext_enum_end (I.ok.hd hc) he hit p.isList (by simp;omega) λh' eb=>⟨rfl,I.turned (t':=s.toks) (λb o hb q=>eb b o hb q) f0 f1 f3 f4 f5⟩
 self:=λ_ _ _ _ _ st h=>by
  obtain⟨⟨old,he⟩,hit⟩:=st;exact wpAny_pyIter_enum he h
def mX:bootBuiltins "enumerate"=some (.type "enumerate"):=by decide+kernel
abbrev FL (ta:TA):TI:=λU H R=>ta U H λvs H1=>∃ l,vs=[.ref l]/\(∃ xs,H1 l=some (.lst xs))/\R (FV l) H1
def zL {k:Nat}{a:Expr}{ta:TA}{p pos':Pos}(hg:Gl X "enumerate") (hm:X.mg "enumerate"=none) (ha:PA X [a] ta) (hs:bv [a] X.env=[(false,eval a X.env)]:=by rfl):
  PI X (.Tuple elts k pos') (.Call (.Name "enumerate" p) [a] [] pos) (FL ta):=by
 intro Y s U H R I h;refine Call_ (jD I hg hm mX (PyProof.Rows.callWith_type1 (aC (ha pos Y s U H _ I h) λus s1 ⟨vs,H1,I1,r1,q1⟩=>?_) hs rfl));obtain⟨l,e,⟨xs,hl⟩,q⟩:=q1;subst e;cases r1 with
 |cons r rr=>
  cases rr;cases r;obtain⟨z,its,n,r,hlen,e⟩:=I1.qH hl;refine call_enumerate_1 e λh' he hit hsz hk=>?_
  refine wpAny_pyIter_enum he ?_;refine⟨s1.heap.objs.size+1,[s1.heap.objs.size+1,s1.heap.objs.size],_,_,H1,rfl,I1.kept (t':=s1.toks) hk,uI l _ _ (Nat.succ_ne_self _),⟨⟨_,he⟩,hit⟩,λb hb=>?_,q⟩;have hb':s1.heap.objs.size<=b:=by
   rcases lw.mp hb with rfl|hb
   .exact Nat.le_succ _
   .have e':b=s1.heap.objs.size:=by simpa using hb
    exact Nat.le_of_eq e'.symm
  exact I1.vb hb' (I1.hok.fresh hb')
section
variable {g:TG}{tb:TS}{D:Ends}{U:St}{H:Hp}{ta:TA}
end
section
variable {X:Cx}
abbrev Am:V->List V->Hp->VK->Prop:=λx vs H Q=>∃ l xs i y,x=.ref l/\vs=[.int i,y]/\H l=some (.lst xs)/\0<=i/\i<=xs.length/\xs.length<ce/\Q .non (upd H l (.lst (xs.take i.toNat++y::xs.drop i.toNat)))
def Vals.take':∀ {xs:List V}{us:List Value}(n:Nat),Vals xs us->Vals (xs.take n) (us.take n)
 |_,_,0,_=>by simpa using Paired.nil
 |_,_,n+1,.nil=>.nil
 |_,_,n+1,.cons r t=>.cons r (Vals.take' n t)
def Vals.drop':∀ {xs:List V}{us:List Value}(n:Nat),Vals xs us->Vals (xs.drop n) (us.drop n)
 |_,_,0,r=>r
 |_,_,n+1,.nil=>.nil
 |_,_,n+1,.cons r t=>Vals.drop' n t
def uz:HH X "list.insert" Am:=by
 intro Y s U H x vs v us Q I rx rv h;obtain⟨l,xs,i,y,rfl,rfl,hH,h0,h1,hz,q⟩:=h;cases rx;obtain⟨u,u2,rfl,ru,ru2⟩:=vals2 rv;obtain⟨t,rfl⟩:=ru;obtain⟨z,its,n,r,hl,e⟩:=I.qH hH;have hk:i.toNat<=its.length:=by omega
 have hn:=dS;have hfit:¬ (!Builtin.List.listFitsIndex i)=true:=by
  rw[fitsIndex_both (k:=i) nofun nofun]
  decide
 have hsz:its.toArray.size<=ce:=by rw[im];omega
 have hmt:=AutoSeq1.list_insert_list_int_val_1 l its.toArray n i t u2 hfit hsz;refine call_meets F.slot_list_insert ⟨_,e,rfl⟩ F.entry_list_insert (F.args_list_insert_3 _ _ _) hmt ⟨e,?_⟩;refine⟨.non,_,I.CV (its':=its.take i.toNat++u2::its.drop i.toNat) hH e ?_ ?_ ?_,rfl,q⟩
 .have ek:(if i<0 then(i+(its.toArray.size:Int)).toNat else min i.toNat its.toArray.size)=i.toNat:=by
   rw[if_neg nofun,im];exact Nat.min_eq_left hk
  show((its.toArray.extract 0 (if i<0 then(i+(its.toArray.size:Int)).toNat else min i.toNat its.toArray.size)).push u2++its.toArray.extract (if i<0 then(i+(its.toArray.size:Int)).toNat else min i.toNat its.toArray.size))=_;rw[ek];apply Array.ext';simp;exact take_of_length_le (by rw[le];omega)
 .exact(Vals.take' i.toNat r).append (.cons ru2 (Vals.drop' i.toNat r))
 .rw[db,length_cons,dL,le]
  omega
end
section
variable {K:W.Frag}{r:V->List V->Hp->VK->Prop}{to:TE}{t:TA}{U:St}{H:Hp}{Q:VK}
end
section
variable {H H1 H2:Hp}{p h c:Addr}{o:HO}{m:Int}
end
section
variable {H H':Hp}{xs ys:List V}{f:Nat->Int×Int}
end
section
variable {X:Cx}{a b c d:Expr}{ta tb tc td:TE}{pos:Pos}
end
section
variable {K:W.Frag}{U:St}{H:Hp}{Q:VK}{ta tb tc td tv:TE}{t:TA}{f m:Str}{D:Ends}{C:Addr}{sp:Sp}{dvs:List V}{E:XK}
end
section
variable {g:TG}{tb:TS}{D:Ends}{U:St}{H:Hp}{ta:TA}
end
section
variable {C:Addr}{H H':Hp}{S D h c:Addr}{rs:List Rec}{r:Rec}
end
section
variable {X:Cx}
end
end L2
namespace L2
end L2
namespace L2
open PySem PySem.Spec PyProof.Rows
section
variable {C:Addr}{H HF:Hp}{S D h c:Addr}{rs:List Rec}{r':Rec}
end
section
variable {X:Cx}
end
structure Ig (K:W.Frag) (C:Addr):Prop where
 ha:W.findIn K (.ref C) "__class__"=some (some (.builtin "object.__class__"))
 hn:W.specialIn K (.builtin "object.__class__") "__get__"=some (some (.builtin "getset_descriptor.__get__"))
 htk:W.takesIn K (.builtin "object.__class__")=some true
 hm:W.mroIn K C (.type "object")=some true
end L2
namespace L2
open PySem PySem.Spec PySem.W PyProof.Rows
abbrev bc (tp:Bool)(h:Heap)(j b:Addr)(k:Nat):Prop:=match tp with
 |true=>h.IsTupleIter j b k
 |false=>h.IsListIter j b k
abbrev cA (tp:Bool)(h:Heap)(b:Addr)(xs:Array Value):Prop:=match tp with
 |true=>h.IsTuple b xs
 |false=>h.IsList b xs
variable {tp:Bool}{h:Heap}{b:Addr}{k:Nat}
def bc.to {h':Heap}{j:Addr}(g:bc tp h j b k)(e:∀ o,h.get? j=some o->h'.get? j=some o):bc tp h' j b k:=by
 cases tp
 .obtain⟨o,e1,r⟩:=(show h.IsListIter j b k from g);exact⟨o,e o e1,r⟩
 .obtain⟨o,e1,r⟩:=(show h.IsTupleIter j b k from g);exact⟨o,e o e1,r⟩
variable {xs:Array Value}
def cA.to {h':Heap}(g:cA tp h b xs)(e:∀ o,h.get? b=some o->h'.get? b=some o):cA tp h' b xs:=by
 cases tp
 .obtain⟨o,e1,r⟩:=(show h.IsList b xs from g);exact⟨o,e o e1,r⟩
 .obtain⟨o,e1,r⟩:=(show h.IsTuple b xs from g);exact⟨o,e o e1,r⟩
def bc.lt {j:Addr}(g:bc tp h j b k):j<h.objs.size:=by
 cases tp
 .obtain⟨o,e1,r⟩:=(show h.IsListIter j b k from g);exact u8 e1
 .obtain⟨o,e1,r⟩:=(show h.IsTupleIter j b k from g);exact u8 e1
def cA.lt (g:cA tp h b xs):b<h.objs.size:=by
 cases tp
 .obtain⟨o,e1,r⟩:=(show h.IsList b xs from g);exact u8 e1
 .obtain⟨o,e1,r⟩:=(show h.IsTuple b xs from g);exact u8 e1
variable {Q:Option Value->Shared->Prop}{T:Int}{fb:Bool}{oT:Obj}
section
variable {prog:Program}{w:World}{A:Around}{E:JU}{s:Shared}
def CA {j:Addr}{x:Value}{Q:JU}(g:s.heap.IsTupleIter j b k)(t:s.heap.IsTuple b xs)(hx:xs[k]? =some x)
  (q:∀ h',h'.IsTupleIter j b (k+1)->Heap.SameBut j s.heap h'->Q x { s with heap:=h' }):wpAny (model prog w) A (Builtin.SmallTypes.nextOf (.ref j)) Q E s:=by
 obtain⟨o1,e1,c1,d1⟩:=id g;obtain⟨o2,e2,_,n2,d2⟩:=t;unfold Builtin.SmallTypes.nextOf;refine am (wpAny_callSpecial?_slot (name:=Str.ofString "__next__") g.typeIs F.slot_tuple_iterator_next (wpAny_call_entry F.slot_tuple_iterator_next g.typeIs F.entry_tuple_iterator_next ?_ (F.args_tuple_iterator_next_1 _)));show wpAny _ _ (field (.ref j) 0 >>= _) _ _ s;refine am (bd e1 d1 (x:=.ref b) rfl ?_);show wpAny _ _ (if(Value.ref b ==Value.none)=true then _ else _) _ _ s;rw[if_neg (show ¬ ((Value.ref b ==Value.none)=true) from Bool.false_ne_true)];show wpAny _ _ (field (.ref j) 1 >>= _) _ _ s;refine am (bd e1 d1 (x:=.int k 0) rfl ?_);show wpAny _ _ (seqItems? (.ref b) >>= _) _ _ s;refine am (wpAny_seqItems e2 d2 ?_);simp only[s0,hx];refine am (wpAny_setField e1 d1 (by simp) (ap ⟨x,rfl,ap (q _ ?_ (Heap.SameBut.update ..))⟩));refine⟨_,Heap.get?_update_self _ e1 (Obj.isFreed_of_fields (Obj.data_mapFields d1 _)),(Obj.cls_mapFields ..).trans c1,?_⟩;rw[Obj.data_mapFields d1];simp[rawInt]
def AJ {j:Addr}{Q:JU}(hh:A.handled=none)(g:s.heap.IsTupleIter j b k)(t:s.heap.IsTuple b xs)(hx:xs[k]? =none)
  (q:∀ h' e,Heap.ExtBut j s.heap h'->(∃ o,h'.get? e=some o/\o.cls=.type "StopIteration")->E (.ref e) { s with heap:=h' }):wpAny (model prog w) A (Builtin.SmallTypes.nextOf (.ref j)) Q E s:=by
 obtain⟨o1,e1,c1,d1⟩:=id g;obtain⟨o2,e2,_,n2,d2⟩:=t;unfold Builtin.SmallTypes.nextOf;refine am (wpAny_callSpecial?_slot (name:=Str.ofString "__next__") g.typeIs F.slot_tuple_iterator_next (wpAny_call_entry F.slot_tuple_iterator_next g.typeIs F.entry_tuple_iterator_next ?_ (F.args_tuple_iterator_next_1 _)));show wpAny _ _ (field (.ref j) 0 >>= _) _ _ s;refine am (bd e1 d1 (x:=.ref b) rfl ?_);show wpAny _ _ (if(Value.ref b ==Value.none)=true then _ else _) _ _ s;rw[if_neg (show ¬ ((Value.ref b ==Value.none)=true) from Bool.false_ne_true)];show wpAny _ _ (field (.ref j) 1 >>= _) _ _ s;refine am (bd e1 d1 (x:=.int k 0) rfl ?_);show wpAny _ _ (seqItems? (.ref b) >>= _) _ _ s;refine am (wpAny_seqItems e2 d2 ?_);simp only[s0,hx];refine am (wpAny_rule (am (wpAny_setField e1 d1 (by simp) ?_)));show wpAny _ _ (newExc (.type "StopIteration") [] >>= _) _ _ _;refine am ?_;simp only[newExc,newTuple];refine am (wpAny_newObj_type ?_ (by size_fits));refine am (m:=firstArgMember _ _) (wpAny_of_eq (a:=Value.none) (by first|rfl|(simp only[firstArgMember];rfl)) ?_);refine wpAny_newObj_type ?_ (by size_fits);simp only[raiseNew];refine am (wpAny_handled ?_);first|rw[show A.in1.handled=none from hh]|rw[hh]
 refine am (ap (wpAny_throw ?_));exact q _ _ (((Heap.SameBut.update ..).extBut.push _).push _) ⟨_,ul _ rfl,rfl⟩
def ef {j:Addr}{x:Value}{Q:JU}(g:bc tp s.heap j b k)(t:cA tp s.heap b xs)(hx:xs[k]? =some x)
  (q:∀ h',bc tp h' j b (k+1)->Heap.SameBut j s.heap h'->Q x { s with heap:=h' }):wpAny (model prog w) A (Builtin.SmallTypes.nextOf (.ref j)) Q E s:=by
 cases tp
 .exact wpAny_nextOf_list_item g t hx q
 .exact CA g t hx q
def md {j:Addr}{Q:JU}(hh:A.handled=none)(g:bc tp s.heap j b k)(t:cA tp s.heap b xs)(hx:xs[k]? =none)
  (q:∀ h' e,Heap.ExtBut j s.heap h'->(∃ o,h'.get? e=some o/\o.cls=.type "StopIteration")->E (.ref e) { s with heap:=h' }):wpAny (model prog w) A (Builtin.SmallTypes.nextOf (.ref j)) Q E s:=by
 cases tp
 .exact wpAny_nextOf_list_end hh g t hx q
 .exact AJ hh g t hx q
@[reducible]def ck (h:Heap) (z TI TO:Addr) (f0 f1:Value):Prop:=h.get? z=some { cls:=.type "zip",dict:=none,data:=.fields #[f0,f1,.bool false,.ref TI,.ref TO],slots:=#[] }
variable {z TI TO i1 i2 l1 l2:Addr}{k1 k2:Nat}{tp1 tp2:Bool}{xs ys:Array Value}{x y a b f1:Value}
def Bc (D:ZipApart z TI TO i1 i2 l1 l2)(hz:ck s.heap z TI TO .none f1)(hI:IsPair s.heap TI (.ref i1) (.ref i2))(hO:IsPair s.heap TO a b)
  (g1:bc tp1 s.heap i1 l1 k1) (g2:bc tp2 s.heap i2 l2 k2) (t1:cA tp1 s.heap l1 xs) (t2:cA tp2 s.heap l2 ys) (hx:xs[k1]? =some x) (hy:ys[k2]? =some y)
  (q:∀ h',ck h' z TI TO (rawInt s.heap.objs.size) (.bool false)->IsPair h' TO x y->bc tp1 h' i1 l1 (k1+1)->bc tp2 h' i2 l2 (k2+1)->IsPair h' s.heap.objs.size x y->h'.objs.size=s.heap.objs.size+1->
   (∀ c o,c≠z->c≠TO->c≠i1->c≠i2->s.heap.get? c=some o->h'.get? c=some o)->Q (some (.ref s.heap.objs.size)) { s with heap:=h' }):wpAny (model prog w) A (pyNext (.ref z)) Q E s:=by
 have hZ:s.TypeIs (.ref z) "zip":=⟨_,hz,rfl⟩;unfold pyNext;refine am (wpAny_attempt (wpAny_callSpecial?_slot (name:=Str.ofString "__next__") hZ F.slot_zip_next (wpAny_call_entry F.slot_zip_next hZ F.entry_zip_next ?_ (F.args_zip_next_1 _))));show wpAny _ _ (field (.ref z) 2 >>= _) _ _ _;refine am (bd (x:=.bool false) hz rfl rfl ?_);show wpAny _ _ (field (.ref z) 3 >>= _) _ _ _;refine am (bd (x:=.ref TI) hz rfl rfl ?_);refine am (wpAny_seqItems hI rfl ?_);show wpAny _ _ (Builtin.SmallTypes.ownedTupleIsFree (.ref z) >>= _) _ _ _;refine am ?_;unfold Builtin.SmallTypes.ownedTupleIsFree;refine am (bd (x:=.none) hz rfl rfl (ap ?_));simp only[if_true];refine am (wpAny_rule ?_);refine am (bd (x:=.ref TO) hz rfl rfl ?_);refine am (wpAny_setField_rec hz (by simp) λp1 z1 b1=>?_)
 replace z1:ck p1 z TI TO .ellipsis f1:=z1
 refine am ?_;simp only[List.zipIdx_cons,List.zipIdx_nil,forIn_cons,forIn_nil];refine am (am (wpAny_onRaise ?_));show wpAny _ _ (Builtin.SmallTypes.nextOf (.ref i1) >>= _) _ _ _;refine am (ef (g1.to λo e=>b1.extBut _ o D.i1z e) (t1.to λo e=>b1.extBut _ o D.l1z e) hx λp2 g1b b2=>ap ?_);have hO2:IsPair p2 TO a b:=b2.extBut _ _ D.TOi1 (b1.extBut _ _ D.TOz hO);refine am (wpAny_seqItems hO2 rfl ?_);refine am (wpAny_updateSeq_pair hO2 λp3 hO3 b3=>?_)
 replace hO3:IsPair p3 TO x b:=hO3
 refine am (wpAny_letGo (ap ?_));refine am (am (wpAny_onRaise ?_));show wpAny _ _ (Builtin.SmallTypes.nextOf (.ref i2) >>= _) _ _ _;refine am (ef (g2.to λo e=>b3.extBut _ o D.TOi2.symm (b2.extBut _ o D.i12.symm (b1.extBut _ o D.i2z e))) (t2.to λo e=>b3.extBut _ o D.l2TO (b2.extBut _ o D.l2i1 (b1.extBut _ o D.l2z e))) hy λp4 g2b b4=>ap ?_);have hO4:IsPair p4 TO x b:=b4.extBut _ _ D.TOi2 hO3;refine am (wpAny_seqItems hO4 rfl ?_);refine am (wpAny_updateSeq_pair hO4 λp5 hO5 b5=>?_)
 replace hO5:IsPair p5 TO x y:=hO5
 refine am (wpAny_letGo (ap (ap ?_)));refine am (wpAny_seqItems hO5 rfl ?_);refine am (wpAny_newTuple ?_);have hsz:p5.objs.size=s.heap.objs.size:=by rw[b5.1,b4.1,b3.1,b2.1,b1.1]
 have z5:ck p5 z TI TO .ellipsis f1:=b5.extBut _ _ D.TOz.symm (b4.extBut _ _ D.i2z.symm (b3.extBut _ _ D.TOz.symm (b2.extBut _ _ D.i1z.symm z1)));have k5:∀ c o,c≠z->c≠TO->c≠i1->c≠i2->s.heap.get? c=some o->p5.get? c=some o:=λc o n1 n2 n3 n4 e=>b5.extBut _ _ n2 (b4.extBut _ _ n4 (b3.extBut _ _ n2 (b2.extBut _ _ n3 (b1.extBut _ _ n1 e))))
 have g15:bc tp1 p5 i1 l1 (k1+1):=g1b.to λo e=>b5.extBut _ o D.TOi1.symm (b4.extBut _ o D.i12 (b3.extBut _ o D.TOi1.symm e))
 have g25:bc tp2 p5 i2 l2 (k2+1):=g2b.to λo e=>b5.extBut _ o D.TOi2.symm e
 have zlt:z<p5.objs.size:=u8 z5;show wpAny _ _ (Builtin.SmallTypes.ownedTupleHandOut (.ref z) (.ref p5.objs.size) >>= _) _ _ _;refine am ?_;unfold Builtin.SmallTypes.ownedTupleHandOut;have z6:ck (p5.push { cls:=.type "tuple",data:=.seq #[x,y] }) z TI TO .ellipsis f1:=tz _ z5;refine am (wpAny_setField_rec z6 (by simp) λp7 z7 b7=>?_)
 replace z7:ck p7 z TI TO (rawInt p5.objs.size) f1:=z7
 refine wpAny_setField_rec z7 (by simp) λp8 z8 b8=>?_
 replace z8:ck p8 z TI TO (rawInt p5.objs.size) (.bool false):=z8
 have up:∀ c o,c≠z->p5.get? c=some o->p8.get? c=some o:=λc o n1 e=>b8.extBut _ _ n1 (b7.extBut _ _ n1 (tz _ e))
 have hT:IsPair p8 p5.objs.size x y:=b8.extBut _ _ (Nat.ne_of_gt zlt) (b7.extBut _ _ (Nat.ne_of_gt zlt) (ul _ rfl));have h8:p8.objs.size=p5.objs.size+1:=by rw[b8.1,b7.1,Heap.size_push]
 rw[hsz]at z8 hT h8;refine ap ⟨_,rfl,?_⟩;rw[hsz];exact ap (q p8 z8 (up _ _ D.TOz hO5) (g15.to λo e=>up _ o D.i1z e) (g25.to λo e=>up _ o D.i2z e) hT h8 λc o n1 n2 n3 n4 e=>up c o n1 (k5 c o n1 n2 n3 n4 e))
def Ds {Q:Fin->Shared->Prop}(hh:A.handled=none)(D:ZipApart z TI TO i1 i2 l1 l2)(hz:ck s.heap z TI TO .none f1)(hI:IsPair s.heap TI (.ref i1) (.ref i2))(hO:IsPair s.heap TO a b)
  (g1:bc tp1 s.heap i1 l1 k1) (g2:bc tp2 s.heap i2 l2 k2) (t1:cA tp1 s.heap l1 xs) (t2:cA tp2 s.heap l2 ys) (hx:xs[k1]? =none\/ys[k2]? =none)
  (q:∀ h' e,(∀ c o,c≠z->c≠TO->c≠i1->c≠i2->s.heap.get? c=some o->h'.get? c=some o)->(∃ o,h'.get? e=some o/\o.cls=.type "StopIteration")->E (.ref e) { s with heap:=h' }):
  wpAny (model prog w) A (Builtin.«zip.__next__» ⟨[.ref z],[]⟩) Q E s:=by
 show wpAny _ _ (field (.ref z) 2 >>= _) _ _ _;refine am (bd (x:=.bool false) hz rfl rfl ?_);show wpAny _ _ (field (.ref z) 3 >>= _) _ _ _;refine am (bd (x:=.ref TI) hz rfl rfl ?_);refine am (wpAny_seqItems hI rfl ?_);show wpAny _ _ (Builtin.SmallTypes.ownedTupleIsFree (.ref z) >>= _) _ _ _;refine am ?_;unfold Builtin.SmallTypes.ownedTupleIsFree;refine am (bd (x:=.none) hz rfl rfl (ap ?_));simp only[if_true];refine am (wpAny_rule ?_);refine am (bd (x:=.ref TO) hz rfl rfl ?_);refine am (wpAny_setField_rec hz (by simp) λp1 z1 b1=>?_)
 replace z1:ck p1 z TI TO .ellipsis f1:=z1
 refine am ?_;simp only[List.zipIdx_cons,List.zipIdx_nil,forIn_cons,forIn_nil];refine am (am (wpAny_onRaise ?_));show wpAny _ _ (Builtin.SmallTypes.nextOf (.ref i1) >>= _) _ _ _;cases e1:xs[k1]? with
 |none=>
  refine am (md hh (g1.to λo e=>b1.extBut _ o D.i1z e) (t1.to λo e=>b1.extBut _ o D.l1z e) e1 λp2 e b2 he=>?_);obtain⟨oe,ho,hc⟩:=he;have z2:ck p2 z TI TO .ellipsis f1:=b2 _ _ D.i1z.symm z1;have ne:e≠z:=λn=>by subst n;rw[z2]at ho;cases ho;simp at hc
  exact wpAny_setField_rec z2 (by simp) λp3 _ b3=>q p3 e (λc o n1 _ n3 _ v=>b3.extBut _ _ n1 (b2 _ _ n3 (b1.extBut _ _ n1 v))) ⟨oe,b3.extBut _ _ ne ho,hc⟩
 |some x=>
  have e2:ys[k2]? =none:=by rcases hx with h|h;(rw[e1]at h;cases h);exact h
  refine am (ef (g1.to λo e=>b1.extBut _ o D.i1z e) (t1.to λo e=>b1.extBut _ o D.l1z e) e1 λp2 g1b b2=>ap ?_);have hO2:IsPair p2 TO a b:=b2.extBut _ _ D.TOi1 (b1.extBut _ _ D.TOz hO);refine am (wpAny_seqItems hO2 rfl ?_);refine am (wpAny_updateSeq_pair hO2 λp3 hO3 b3=>?_);refine am (wpAny_letGo (ap ?_));refine am (am (wpAny_onRaise ?_));show wpAny _ _ (Builtin.SmallTypes.nextOf (.ref i2) >>= _) _ _ _;refine am (md hh (g2.to λo e=>b3.extBut _ o D.TOi2.symm (b2.extBut _ o D.i12.symm (b1.extBut _ o D.i2z e))) (t2.to λo e=>b3.extBut _ o D.l2TO (b2.extBut _ o D.l2i1 (b1.extBut _ o D.l2z e))) e2 λp4 e b4 he=>?_);obtain⟨oe,ho,hc⟩:=he;have z4:ck p4 z TI TO .ellipsis f1:=b4 _ _ D.i2z.symm (b3.extBut _ _ D.TOz.symm (b2.extBut _ _ D.i1z.symm z1));have ne:e≠z:=λn=>by subst n;rw[z4]at ho;cases ho;simp at hc
  exact wpAny_setField_rec z4 (by simp) λp5 _ b5=>q p5 e (λc o n1 n2 n3 n4 v=>b5.extBut _ _ n1 (b4 _ _ n4 (b3.extBut _ _ n2 (b2.extBut _ _ n3 (b1.extBut _ _ n1 v))))) ⟨oe,b5.extBut _ _ ne ho,hc⟩
def pv {c:Addr}{Q:Option Obj->Shared->Prop}(h:Q (s.heap.get? c) s):wpAny (model prog w) A (loadIfAlive c) Q E s:=λ_ _ _=>h
variable {t:Tok}
def nF {Q:Bool->Shared->Prop}(hz:ck s.heap z TI TO (.int T t) (.bool fb))(hT:s.heap.get? T.toNat=some oT)(q:∀ h',ck h' z TI TO (.int T t) (.bool true)->Heap.SameBut z s.heap h'->Q false { s with heap:=h' }):
  wpAny (model prog w) A (Builtin.SmallTypes.ownedTupleIsFree (.ref z)) Q E s:=by
 unfold Builtin.SmallTypes.ownedTupleIsFree;refine am (bd (x:=.int T t) hz rfl rfl ?_);refine am (pv ?_);rw[hT];refine am (bd (x:=.bool fb) hz rfl rfl ?_);cases fb
 .refine am (wpAny_setField_rec hz (by simp) λp1 z1 b1=>ap ?_);exact q p1 z1 b1
 .exact am (ap (ap (q s.heap hz (Heap.SameBut.refl ..))))
def yz (D:ZipApart z TI TO i1 i2 l1 l2)(hz:ck s.heap z TI TO (.int T t) (.bool fb))(hT:s.heap.get? T.toNat=some oT)(hI:IsPair s.heap TI (.ref i1) (.ref i2))
  (g1:bc tp1 s.heap i1 l1 k1) (g2:bc tp2 s.heap i2 l2 k2) (t1:cA tp1 s.heap l1 xs) (t2:cA tp2 s.heap l2 ys) (hx:xs[k1]? =some x) (hy:ys[k2]? =some y)
  (q:∀ h',ck h' z TI TO (.int T t) (.bool true)->bc tp1 h' i1 l1 (k1+1)->bc tp2 h' i2 l2 (k2+1)->IsPair h' s.heap.objs.size x y->h'.objs.size=s.heap.objs.size+1->
   (∀ c o,c≠z->c≠i1->c≠i2->s.heap.get? c=some o->h'.get? c=some o)->Q (some (.ref s.heap.objs.size)) { s with heap:=h' }):wpAny (model prog w) A (pyNext (.ref z)) Q E s:=by
 have hZ:s.TypeIs (.ref z) "zip":=⟨_,hz,rfl⟩;unfold pyNext;refine am (wpAny_attempt (wpAny_callSpecial?_slot (name:=Str.ofString "__next__") hZ F.slot_zip_next (wpAny_call_entry F.slot_zip_next hZ F.entry_zip_next ?_ (F.args_zip_next_1 _))));show wpAny _ _ (field (.ref z) 2 >>= _) _ _ _;refine am (bd (x:=.bool false) hz rfl rfl ?_);show wpAny _ _ (field (.ref z) 3 >>= _) _ _ _;refine am (bd (x:=.ref TI) hz rfl rfl ?_);refine am (wpAny_seqItems hI rfl ?_);show wpAny _ _ (Builtin.SmallTypes.ownedTupleIsFree (.ref z) >>= _) _ _ _;refine am (nF hz hT λp1 z1 b1=>?_);simp only[Bool.false_eq_true,if_false];simp only[List.forIn_toArray,forIn_cons,forIn_nil];refine am (am (am (bi ?_)));show wpAny _ _ (Builtin.SmallTypes.nextOf (.ref i1) >>= _) _ _ _;refine am (ef (g1.to λo e=>b1.extBut _ o D.i1z e) (t1.to λo e=>b1.extBut _ o D.l1z e) hx λp2 g1b b2=>ap (ap ?_));dsimp only;refine am (am (bi ?_));show wpAny _ _ (Builtin.SmallTypes.nextOf (.ref i2) >>= _) _ _ _;refine am (ef (g2.to λo e=>b2.extBut _ o D.i12.symm (b1.extBut _ o D.i2z e)) (t2.to λo e=>b2.extBut _ o D.l2i1 (b1.extBut _ o D.l2z e)) hy λp3 g2b b3=>ap (ap (ap ?_)));dsimp only;refine am (wpAny_newTuple ?_ (hsz:=fits (pc rfl)));have hsz:p3.objs.size=s.heap.objs.size:=by rw[b3.1,b2.1,b1.1]
 refine ap ⟨_,rfl,?_⟩;have z3:ck p3 z TI TO (.int T t) (.bool true):=b3.extBut _ _ D.i2z.symm (b2.extBut _ _ D.i1z.symm z1);rw[hsz];refine ap (q _ (tz _ z3) (g1b.to λo e=>tz _ (b3.extBut _ o D.i12 e)) (g2b.to λo e=>tz _ e) (by rw[<-hsz];exact ul _ rfl) (by rw[Heap.size_push,hsz]) λc o n1 n2 n3 e=>?_);exact tz _ (b3.extBut _ _ n3 (b2.extBut _ _ n2 (b1.extBut _ _ n1 e)))
def wR {Q:Fin->Shared->Prop}(hh:A.handled=none)(D:ZipApart z TI TO i1 i2 l1 l2)(hz:ck s.heap z TI TO (.int T t) (.bool fb))(hT:s.heap.get? T.toNat=some oT)(hI:IsPair s.heap TI (.ref i1) (.ref i2))
  (g1:bc tp1 s.heap i1 l1 k1) (g2:bc tp2 s.heap i2 l2 k2) (t1:cA tp1 s.heap l1 xs) (t2:cA tp2 s.heap l2 ys) (hx:xs[k1]? =none\/ys[k2]? =none)
  (q:∀ h' e,(∀ c o,c≠z->c≠i1->c≠i2->s.heap.get? c=some o->h'.get? c=some o)->(∃ o,h'.get? e=some o/\o.cls=.type "StopIteration")->E (.ref e) { s with heap:=h' }):
  wpAny (model prog w) A (Builtin.«zip.__next__» ⟨[.ref z],[]⟩) Q E s:=by
 show wpAny _ _ (field (.ref z) 2 >>= _) _ _ _;refine am (bd (x:=.bool false) hz rfl rfl ?_);show wpAny _ _ (field (.ref z) 3 >>= _) _ _ _;refine am (bd (x:=.ref TI) hz rfl rfl ?_);refine am (wpAny_seqItems hI rfl ?_);show wpAny _ _ (Builtin.SmallTypes.ownedTupleIsFree (.ref z) >>= _) _ _ _;refine am (nF hz hT λp1 z1 b1=>?_);simp only[Bool.false_eq_true,if_false];simp only[List.forIn_toArray,forIn_cons,forIn_nil];refine am (am (am (bi ?_)));show wpAny _ _ (Builtin.SmallTypes.nextOf (.ref i1) >>= _) _ _ _;cases e1:xs[k1]? with
 |none=>exact am (md hh (g1.to λo e=>b1.extBut _ o D.i1z e) (t1.to λo e=>b1.extBut _ o D.l1z e) e1 λp2 e b2 he=>q p2 e (λc o n1 n2 n3 v=>b2 _ _ n2 (b1.extBut _ _ n1 v)) he)
 |some x=>
  have e2:ys[k2]? =none:=by rcases hx with h|h;(rw[e1]at h;cases h);exact h
  refine am (ef (g1.to λo e=>b1.extBut _ o D.i1z e) (t1.to λo e=>b1.extBut _ o D.l1z e) e1 λp2 g1b b2=>ap (ap ?_));dsimp only;refine am (am (bi ?_));show wpAny _ _ (Builtin.SmallTypes.nextOf (.ref i2) >>= _) _ _ _;exact am (md hh (g2.to λo e=>b2.extBut _ o D.i12.symm (b1.extBut _ o D.i2z e)) (t2.to λo e=>b2.extBut _ o D.l2i1 (b1.extBut _ o D.l2z e)) e2 λp4 e b4 he=>q p4 e (λc o n1 n2 n3 v=>b4 _ _ n3 (b2.extBut _ _ n2 (b1.extBut _ _ n1 v))) he)
def Et (hh:A.handled=none)(D:ZipApart z TI TO i1 i2 l1 l2)(hz:ck s.heap z TI TO .none f1)(hI:IsPair s.heap TI (.ref i1) (.ref i2))(hO:IsPair s.heap TO a b)
  (g1:bc tp1 s.heap i1 l1 k1) (g2:bc tp2 s.heap i2 l2 k2) (t1:cA tp1 s.heap l1 xs) (t2:cA tp2 s.heap l2 ys) (hx:xs[k1]? =none\/ys[k2]? =none)
  (q:∀ h',(∀ c o,c≠z->c≠TO->c≠i1->c≠i2->s.heap.get? c=some o->h'.get? c=some o)->Q none { s with heap:=h' }):wpAny (model prog w) A (pyNext (.ref z)) Q E s:=by
 have hT:s.TypeIs (.ref z) "zip":=⟨_,hz,rfl⟩;unfold pyNext;refine am (wpAny_attempt (wpAny_callSpecial?_slot (name:=Str.ofString "__next__") hT F.slot_zip_next (wpAny_call_entry F.slot_zip_next hT F.entry_zip_next (Ds hh D hz hI hO g1 g2 t1 t2 hx λh' e k ⟨o,ho,hc⟩=>?_) (F.args_zip_next_1 _))));exact am (wpAny_isInstance (T:="StopIteration") (b:=true) ⟨o,ho,hc⟩ isSubtype_stop (ap (q _ k)))
def wQ (hh:A.handled=none)(D:ZipApart z TI TO i1 i2 l1 l2)(hz:ck s.heap z TI TO (.int T t) (.bool fb))(hT:s.heap.get? T.toNat=some oT)(hI:IsPair s.heap TI (.ref i1) (.ref i2))
  (g1:bc tp1 s.heap i1 l1 k1) (g2:bc tp2 s.heap i2 l2 k2) (t1:cA tp1 s.heap l1 xs) (t2:cA tp2 s.heap l2 ys) (hx:xs[k1]? =none\/ys[k2]? =none)
  (q:∀ h',(∀ c o,c≠z->c≠i1->c≠i2->s.heap.get? c=some o->h'.get? c=some o)->Q none { s with heap:=h' }):wpAny (model prog w) A (pyNext (.ref z)) Q E s:=by
 have hT':s.TypeIs (.ref z) "zip":=⟨_,hz,rfl⟩;unfold pyNext;refine am (wpAny_attempt (wpAny_callSpecial?_slot (name:=Str.ofString "__next__") hT' F.slot_zip_next (wpAny_call_entry F.slot_zip_next hT' F.entry_zip_next (wR hh D hz hT hI g1 g2 t1 t2 hx λh' e k ⟨o,ho,hc⟩=>?_) (F.args_zip_next_1 _))));exact am (wpAny_isInstance (T:="StopIteration") (b:=true) ⟨o,ho,hc⟩ isSubtype_stop (ap (q _ k)))
end
section
variable {prog:Program}{w:World}{A:Around}{E:JU}{s:Shared}{a:Addr}{vs:Array Value}
end
structure Zs (h:Heap) (tp1 tp2:Bool) (z TI TO i1 i2 l1 l2:Addr) (i:Nat) (xs ys:Array Value):Prop where
 zo:(∃ f1,ck h z TI TO .none f1)\/∃ (T:Int) (fb:Bool) (o:Obj),ck h z TI TO (rawInt T) (.bool fb)/\h.get? T.toNat=some o/\T.toNat≠z/\T.toNat≠TO/\T.toNat≠i1/\T.toNat≠i2
 hI:IsPair h TI (.ref i1) (.ref i2)
 hO:∃ a b,IsPair h TO a b
 g1:bc tp1 h i1 l1 i
 g2:bc tp2 h i2 l2 i
 t1:cA tp1 h l1 xs
 t2:cA tp2 h l2 ys
variable {d:Addr}
section
variable {prog:Program}{w:World}{A:Around}{E:JU}{s:Shared}{tp1 tp2:Bool}{z TI TO i1 i2 l1 l2:Addr}{i:Nat}{xs ys:Array Value}{x y:Value}
def Zs.next (D:ZipApart z TI TO i1 i2 l1 l2)(Z:Zs s.heap tp1 tp2 z TI TO i1 i2 l1 l2 i xs ys)(hx:xs[i]? =some x)(hy:ys[i]? =some y)
  (q:∀ h',Zs h' tp1 tp2 z TI TO i1 i2 l1 l2 (i+1) xs ys->IsPair h' s.heap.objs.size x y->h'.objs.size=s.heap.objs.size+1->(∀ c o,c≠z->c≠TO->c≠i1->c≠i2->s.heap.get? c=some o->h'.get? c=some o)->Q (some (.ref s.heap.objs.size)) { s with heap:=h' }):
  wpAny (model prog w) A (pyNext (.ref z)) Q E s:=by
 obtain⟨zo,hI,⟨a,b,hO⟩,g1,g2,t1,t2⟩:=Z;have n0:∀ {c o},s.heap.get? c=some o->s.heap.objs.size≠c:=λe=>Nat.ne_of_gt (u8 e)
 rcases zo with⟨f1,hz⟩|⟨T,fb,o,hz,hT,n1,n2,n3,n4⟩
 .refine Bc D hz hI hO g1 g2 t1 t2 hx hy λh' z1 o1 j1 j2 p1 sz k=>?_
  refine q h' ⟨.inr ⟨s.heap.objs.size,false,_,z1,p1,n0 hz,n0 hO,Nat.ne_of_gt g1.lt,Nat.ne_of_gt g2.lt⟩,k _ _ D.TIz D.TITO D.TIi1 D.TIi2 hI,⟨_,_,o1⟩,j1,j2,t1.to λo e=>k _ o D.l1z D.l1TO D.l1i1 D.l1i2 e,t2.to λo e=>k _ o D.l2z D.l2TO D.l2i1 D.l2i2 e⟩ p1 sz k
 .refine yz D hz hT hI g1 g2 t1 t2 hx hy λh' z1 j1 j2 p1 sz k=>?_
  exact q h' ⟨.inr ⟨T,true,o,z1,k _ _ n1 n3 n4 hT,n1,n2,n3,n4⟩,k _ _ D.TIz D.TIi1 D.TIi2 hI,⟨a,b,k _ _ D.TOz D.TOi1 D.TOi2 hO⟩,j1,j2,t1.to λo e=>k _ o D.l1z D.l1i1 D.l1i2 e,t2.to λo e=>k _ o D.l2z D.l2i1 D.l2i2 e⟩ p1 sz λc o m1 _ m3 m4 e=>k c o m1 m3 m4 e
def Zs.stop (hh:A.handled=none)(D:ZipApart z TI TO i1 i2 l1 l2)(Z:Zs s.heap tp1 tp2 z TI TO i1 i2 l1 l2 i xs ys)(hx:xs[i]? =none\/ys[i]? =none)
  (q:∀ h',(∀ c o,c≠z->c≠TO->c≠i1->c≠i2->s.heap.get? c=some o->h'.get? c=some o)->Q none { s with heap:=h' }):wpAny (model prog w) A (pyNext (.ref z)) Q E s:=by
 obtain⟨zo,hI,⟨a,b,hO⟩,g1,g2,t1,t2⟩:=Z;rcases zo with⟨f1,hz⟩|⟨T,fb,o,hz,hT,_⟩
 .exact Et hh D hz hI hO g1 g2 t1 t2 hx q
 .exact wQ hh D hz hT hI g1 g2 t1 t2 hx λh' k=>q h' λc o m1 _ m3 m4 e=>k c o m1 m3 m4 e
def Zs.keep {h':Heap}(Z:Zs h tp1 tp2 z TI TO i1 i2 l1 l2 i xs ys)(k:∀ c o,h.get? c=some o->c≠d->h'.get? c=some o) (n:d≠z/\d≠TI/\d≠TO/\d≠i1/\d≠i2/\d≠l1/\d≠l2) (hd:∃ o,h'.get? d=some o):Zs h' tp1 tp2 z TI TO i1 i2 l1 l2 i xs ys:=by
 obtain⟨zo,hI,⟨a,b,hO⟩,g1,g2,t1,t2⟩:=Z;obtain⟨m1,m2,m3,m4,m5,m6,m7⟩:=n;refine⟨?_,k _ _ hI m2.symm,⟨a,b,k _ _ hO m3.symm⟩,g1.to λo e=>k _ o e m4.symm,g2.to λo e=>k _ o e m5.symm,t1.to λo e=>k _ o e m6.symm,t2.to λo e=>k _ o e m7.symm⟩;rcases zo with⟨f1,hz⟩|⟨T,fb,o,hz,hT,r⟩
 .exact .inl ⟨f1,k _ _ hz m1.symm⟩
 .by_cases e:T.toNat=d
  .obtain⟨o',ho⟩:=hd;exact .inr ⟨T,fb,o',k _ _ hz m1.symm,by rw[e];exact ho,r⟩
  .exact .inr ⟨T,fb,o,k _ _ hz m1.symm,k _ _ hT e,r⟩
end
section
variable {prog:Program}{w:World}{A:Around}{tp1 tp2:Bool}{z TI TO i1 i2 l1 l2 d:Addr}{xs ys:Array Value}{Ky:Type} [DecidableEq Ky] {knd:KeyKind prog w Ky}
end
section
variable {X:Cx}{Y:JV}{U:St}{H:Hp}{s:Shared}{a:Addr}{kvs:List (Key×V)}{A:Around}{E:JU}
end
variable {A:Around}
section
variable {X:Cx}{Y:JV}{U:St}{H:Hp}{s:Shared}
def om {x:V}{u t:Value}(I:Inv X Y U H s)(rx:RelV x u)(ty:gg X.K H x t):∃ P:Heap->Prop,KitX X.K u t P/\P s.heap/\u≠.builtin "__main__.__loader__#opaque":=by
 cases ty with
 |non=>cases(show u=Value.none from rx);exact⟨_,kitx_none,True.intro,λz=>nomatch z⟩
 |bl y=>cases(show u=Value.bool y from rx);exact⟨_,kitx_bool,True.intro,λz=>nomatch z⟩
 |int i=>obtain⟨t,q⟩:=(show ∃ t,u=Value.int i t from rx);cases q;exact⟨_,kitx_int,True.intro,λz=>nomatch z⟩
 |str y=>obtain⟨t,q⟩:=(show ∃ t,u=Value.str y t from rx);cases q;exact⟨_,kitx_str,True.intro,λz=>nomatch z⟩
 |flt y=>obtain⟨t,q⟩:=(show ∃ t,u=Value.float y t from rx);cases q;exact⟨_,kitx_float,True.intro,λz=>nomatch z⟩
 | @lst a xs ea=>
  cases(show u=Value.ref a from rx);obtain⟨_,_,n,_,h1⟩:=(show ax X.prog X.w H s.heap a (.lst xs) from I.hok a _ ea);exact⟨_,kitx_list,⟨_,h1,rfl⟩,λz=>nomatch z⟩
 | @ji a ob xs ea=>
  cases(show u=Value.ref a from rx);obtain⟨_,_,_,n,_,h1⟩:=(show ax X.prog X.w H s.heap a (.ji ob (.lst xs)) from I.hok a _ ea);exact⟨_,kitx_list,⟨_,h1,rfl⟩,λz=>nomatch z⟩
 | @tup a xs ea=>
  cases(show u=Value.ref a from rx);obtain⟨_,_,_,p⟩:=(show ax X.prog X.w H s.heap a (.tup xs) from I.hok a _ ea);obtain⟨o,h1,h2,_⟩:=p;exact⟨_,kitx_tuple,⟨o,h1,h2⟩,λz=>nomatch z⟩
 | @dK a kvs ea=>
  cases(show u=Value.ref a from rx);obtain⟨_,_,vs,_,p⟩:=(show ax X.prog X.w H s.heap a (.dK kvs) from ea.ok I.hok);obtain⟨o,es,ep,h1,h2,_⟩:=p;exact⟨_,kitx_dict,⟨o,h1,h2.1⟩,λz=>nomatch z⟩
 | @dT a kvs ea=>
  cases(show u=Value.ref a from rx);obtain⟨_,_,xs,_,o,es,ep,h1,h2,_⟩:=(show ax X.prog X.w H s.heap a (.dT kvs) from I.hok a _ ea);exact⟨_,kitx_dict,⟨o,h1,h2.1⟩,λz=>nomatch z⟩
 | @ins a C dx fs ea cl ha hn htk hm=>
  cases(show u=Value.ref a from rx);obtain⟨mA,O,_⟩:=eh I.hok ea;obtain⟨od,J,_⟩:=O.look;exact⟨_,kitx_own (cl.get _) cl.hd ha hn htk hm,J,λz=>nomatch z⟩
def lu {E:JU}{Q:JU}{u t:Value}{p:Addr}{cs:List Addr}{b:Bool}{P:Heap->Prop}(I:Inv X Y U H s)(Z:KitX X.K u t P)(hp:P s.heap)(hx:u≠.builtin "__main__.__loader__#opaque")
  (ep:H p=some (.tup (cs.map V.ref))) (e:kitAny X.K t (cs.map Value.ref)=some b) (h:∀ tk,Q (.bool b) { s with toks:=tk }):wpAny (model X.prog X.w) A (call (.builtin "isinstance") [u,.ref p]) Q E s:=by
 obtain⟨its,r,pl,_⟩:=I.tuple (a5.of ep);have er:∀ {cs:List Addr}{us:List Value},Vals (cs.map V.ref) us->us=cs.map Value.ref:=by
  intro cs
  induction cs with
  |nil=>intro us h;cases h;rfl
  |cons c cs ih=>
   intro us h;cases h with
   |cons r1 r2=>
    rw[ih r2,show _=Value.ref c from r1]
    rfl
 obtain rfl:=er r;obtain⟨⟨c,d,da,sl⟩,h1,h2,n,h3⟩:=(show s.heap.IsTuple p (cs.map Value.ref).toArray from pl);subst h2;obtain rfl:=h3;exact kia_tup Z I.bw hp h1 e hx h
end
def E4 (d:Addr)(hd:(d ==sysModules)=false)(dd:Option Addr)(ep:Nat)(sl:Array (Option Value)):Meets (Builtin.«dict.__eq__» ⟨[.ref d,.ref d],[]⟩) (λ_ R s=>s.heap.get? d=some ⟨.type "dict",dd,.dict #[] ep,sl⟩/\R (.ok (.ret (.bool true))) s):=by
 intro prog w A R s hs;obtain⟨h,g,dp,tt,os⟩:=s;obtain⟨ho,q⟩:=hs;have hT:(⟨h,g,dp,tt,os⟩:Shared).TypeIs (.ref d) "dict":=⟨_,ho,rfl⟩;unfold Builtin.«dict.__eq__»
 k_delta "equality"
 unfold Builtin.Dict.dictSlotArgs;refine am (am (wpAny_notOrdered_dict hT ?_));show wpAny _ _ (pure (Value.ref d,[Value.ref d]) >>= _) _ _ _;refine am (ap (ap ?_));have hi:=PySem.F.kt_sub_dict;show wpAny _ _ (isInstance (.ref d) (.type "dict") >>= _) _ _ _;unfold Builtin.Dict.samePairs;simp only[Std.Legacy.Range.forIn_eq_forIn_range']
 repeat(any_goals first|assumption|wp_step)
variable {s:Shared}{dd:Option Addr}{sl:Array (Option Value)}
def ET (hd:(d ==sysModules)=false){ep:Nat}(ho:s.heap.get? d=some ⟨.type "dict",dd,.dict #[] ep,sl⟩) (hu:A.units<cLine):SeqAt.RcAt A s (.ref d) (.ref d) true:=λprog w E Q h=>
 richCompare_meets_room (op:=.Eq) ⟨_,ho,rfl⟩ ⟨_,ho,rfl⟩ PySem.F.slot_dict_eq PySem.F.entry_dict_eq (PySem.F.args_dict_eq_2 _ _) (E4 d hd dd ep sl) ⟨ho,show Value.bool true≠Value.notImplemented/\Q (.bool true) s from⟨(λx=>nomatch x),h⟩⟩ hu
abbrev vi (K:W.Frag)(H:Hp)(a:Addr):Prop:=(∃ xs,aP K H a xs)\/(∃ xs,a5 K H a xs)\/H a=some (.dK [])
variable {X:Cx}{Y:JV}
def As {U:St}{H:Hp}{a:Addr}(I:Inv X Y U H s)(h:vi X.K H a)(hu:A.units+2<cLine):SeqAt.RcAt A s (.ref a) (.ref a) true:=by
 rcases h with⟨xs,h⟩|⟨xs,h⟩|h
 .obtain⟨ia,ra,pa,_⟩:=I.list h;have rc:=SeqAt.RcAt.lists (A:=A) (e:=λ_=>true) pa.isList pa.isList rfl nofun λj h1 h2=>SeqAt.EqAt.same _
  have e:(List.range ia.toArray.size).all (λ_=>true)=true:=by simp
  rwa [e]at rc
 .obtain⟨ia,ra,pa,_⟩:=I.tuple h;have rc:=SeqAt.RcAt.tuples (A:=A) (e:=λ_=>true) (show s.heap.IsTuple a ia.toArray from pa) (show s.heap.IsTuple a ia.toArray from pa) nofun λj h1 h2=>SeqAt.EqAt.same _
  have e:((List.range (min ia.toArray.size ia.toArray.size)).all (λ_=>true)&&ia.toArray.size ==ia.toArray.size)=true:=by simp
  rwa [e]at rc
 .obtain⟨z,hd,vs,rel,dd⟩:=iQ I.hok (.inl h);cases rel;obtain⟨⟨c,d,da,sl⟩,es,ep,ho,hx,he,_,hp,_⟩:=dd;have e0:es=#[]:=by
   cases hp':es.toList with
   |nil=>exact Array.toList_eq_nil_iff.mp hp'
   |cons a b=>rw[hp']at hp;cases hp
  subst e0;obtain rfl:da=.dict #[] ep:=he;obtain⟨rfl,_⟩:=hx;exact ET hd ho nofun
section
variable {prog:Program}{w:World}{A:Around}{E:JU}{s:Shared}{T:String}{r d:Addr}{n:Nat}{P:Nat->Value->Prop}{OK:Heap->Prop}
end
abbrev pW (tp:Bool):String:=match tp with
 |true=>"tuple"
 |false=>"list"
abbrev vq (K:W.Frag)(C:Addr):Bool:=findIn K (.ref C) "__eq__" ==some (some (.builtin "object.__eq__"))&&subIn K (.ref C) (.type "str") ==some false&&subIn K (.ref C) (.type "object") ==some true
def pY {prog:Program}{w:World}{K:Frag}{C:Addr}{R:Result->Shared->Prop}(X:K.In s.heap)(hm:makesIn K C=true)(hi:findIn K (.ref C) "__init__"=some (some (.builtin "object.__init__")))
  (h:R (.ok (.ret (.ref (s.heap.objs.size+1)))) { s with heap:=(s.heap.push emptyDict).push (instObj C s.heap.objs.size) }):codeAny (model prog w) A (.call (.ref C) ⟨[],[]⟩) R s:=by
 obtain⟨hh,g,d,t,os⟩:=s;have Y:=makes_of (M:=model prog w) X hm;refine make_core Y (looks_findIn X hi) (λz=>Looks.of_pure (oi_bind z)) (.inr ⟨rfl,rfl⟩) ?_;have k:∀ b o,hh.get? b=some o->((hh.push emptyDict).push (instObj C hh.objs.size)).get? b=some o:=λb o e=>tz _ (tz _ e)
 have hx:((hh.push emptyDict).push (instObj C hh.objs.size)).get? (hh.objs.size+1)=some (instObj C hh.objs.size):=by heap_get
 have t1:Looks (model prog w) ((hh.push emptyDict).push (instObj C hh.objs.size)) (typeOf (.ref (hh.objs.size+1))) (.ref C):=Looks.andThen (Looks.ld hx) .now;have t2:Looks (model prog w) ((hh.push emptyDict).push (instObj C hh.objs.size)) (isInstance (.ref (hh.objs.size+1)) (.type "object")) true:=t1.andThen (Y.top.keeps k);refine codeAny_call_builtin oi_plain entry_oi (@check_slot (model prog w) _ _ _ "object.__init__" "object" "__init__" (.ref (hh.objs.size+1)) [] [] _ oi_kind oi_split t2 (oi_args _) ?_);rw[oi_run];exact ap ⟨rfl,h⟩
structure Jf (K:Frag) (C:Addr):Prop where
 makes:makesIn K C=true
 init:findIn K (.ref C) "__init__"=some (some (.builtin "object.__init__"))
 kp:keepIn K (.ref C)=true
abbrev IE (C:Addr):TE:=λ_ H Q=>∀ x dx,H x=none->H dx=none->dx≠x->Q (.ref x) (upd (upd H dx (.own x)) x (.ins C dx []))
variable {pos:Pos}
def wt {C:Addr}{x:Str}{p:Pos}(M:Jf X.K C)(hg:Gl X x)(hm:X.mg x=some (.ref C))(hdb:(x ==("__debug__":Str))=false):PE X (.Call (.Name x p) [] [] pos) (IE C):=by
 intro Y s U H Q I h;refine ci (ba I hg hm ?_ hdb);refine W.callWith_K0 I.bw M.kp (wpAny_call (pY I.bw M.makes M.init ?_));have I2:=Inv.made (C:=C) I;exact⟨.ref (s.heap.objs.size+1),_,I2,rfl,h (s.heap.objs.size+1) s.heap.objs.size (I.hok.fresh (Nat.le_succ _)) (I.hok.fresh (re _)) (pi (Nat.lt_succ_self _))⟩
@[reducible]def VV:List (V×V)->List (Value×Value)->Prop:=Paired λp q=>RelV p.1 q.1/\RelV p.2 q.2
abbrev PQ (X:Cx)(pos:Pos)(keys:List (Option Expr))(values:List Expr)(t:St->Hp->(List (V×V)->Hp->Prop)->Prop):Prop:=
 ∀ (Y:JV) (s:Shared) (U:St) (H:Hp) (Q:List (V×V)->Hp->Prop),Inv X Y U H s->t U H Q->
  wpAny (model X.prog X.w) X.A (evalPairs (pairTrees keys values X.env pos)) (λvs s'=>∃ ps H',Inv X Y U H' s'/\VV ps vs/\Q ps H') X.xe s
def DN:PQ X pos [] [] (λ_ H Q=>Q [] H):=λY s U H Q I h=>pairTrees_nil_walk ⟨[],H,I,.nil,h⟩
variable {t:St->Hp->(List (V×V)->Hp->Prop)->Prop}
def zQ {k v:Expr}{ks:List (Option Expr)}{vs:List Expr}{tk tv:TE}(hk:PE X k tk)(hv:PE X v tv)(hr:PQ X pos ks vs t):
  PQ X pos (some k::ks) (v::vs) (λU H Q=>tk U H λx H1=>tv U H1 λy H2=>t U H2 λps H3=>Q ((x,y)::ps) H3):=λY s U H Q I h=>
 pairTrees_cons_walk (aC (hk Y s U H _ I h) λu s1 ⟨x,H1,I1,rx,q1⟩=>aC (hv Y s1 U H1 _ I1 q1) λw2 s2 ⟨y,H2,I2,ry,q2⟩=>
  aC (hr Y s2 U H2 _ I2 q2) λws s3 ⟨ps,H3,I3,rel,q3⟩=>⟨(x,y)::ps,H3,I3,.cons ⟨rx,ry⟩ rel,q3⟩)
abbrev bb (kvs more:List (Key×V)):List (Key×V):=more.foldl (λacc kv=>putK acc kv.1 kv.2) kvs
def KV.merge:∀ {more:List (Key×V)}{rs:List (Key×Value)}{kvs:List (Key×V)}{vs:List (Key×Value)},KV more rs->KV kvs vs->KV (bb kvs more) (merged vs rs):=by
 intro more rs kvs vs r;unfold KV at r
 induction r generalizing kvs vs with
 |nil=>intro q;exact q
 | @cons p q ps qs h t ih=>
  intro r0;have e:KV (putK kvs p.1 p.2) (stored vs q.1 q.2):=by
   have:=r0.put p.1 h.2;rw[<-h.1];exact this
  exact ih e
def cq:∀ (more kvs:List (Key×V)),(bb kvs more).length<=kvs.length+more.length
 | [],kvs=>by show kvs.length<=kvs.length+0;omega
 |p::r,kvs=>by
  have h1:=cq r (putK kvs p.1 p.2);have h2:=dE kvs p.1 p.2;show(bb (putK kvs p.1 p.2) r).length<=_;rw[length_cons];omega
def jX {P:Program}{w:World}:∀ {kvs:List (Key×V)}{ws:List (Value×Value)},VV (kvs.map λkv=>(kV kv.1,kv.2)) ws->∃ rs,Carries (aJ P w) ws rs/\KV kvs rs
 | [],_,r=>by rw[List.map_nil]at r;cases r;exact⟨[],True.intro,.nil⟩
 |p::kvs,_,r=>by
  rw[map_cons]at r;cases r with
  | @cons a b as bs h t=>
   obtain⟨rs,c,q⟩:=jX (P:=P) (w:=w) t;obtain⟨b1,b2⟩:=b;exact⟨(p.1,b2)::rs,⟨kW h.1,rfl,c⟩,.cons ⟨rfl,h.2⟩ q⟩
abbrev Gj (t:St->Hp->(List (V×V)->Hp->Prop)->Prop):TE:=λU H Q=>∀ p,H p=none->t U (upd H p (.dK [])) λps H2=>H2 p=some (.dK [])/\∃ kvs:List (Key×V),ps=kvs.map (λkv=>(kV kv.1,kv.2))/\kvs.length<=15/\Q (.ref p) (upd H2 p (.dK (bb [] kvs)))
def A8 {keys:List (Option Expr)}{values:List Expr}(h:PQ X pos keys values t)(hall:keys.all (·.isSome)=true)(hl:keys.length=values.length)(h0:keys≠[])
  (h15:keys.length<=15):PE X (.Dict keys values pos) (Gj t):=by
 intro Y s U H Q I q;have hn:=I.hok.fresh (re s.heap.objs.size);have I1:=I.laid (a:=s.heap.objs.size) (o:=.dK []) (h':=s.heap.push { cls:=.type "dict",data:=.dict #[] }) (t':=s.toks) (λ_ _ q=>tz _ q) (re _) (nQ s.heap I.big);refine wpAny_Dict_walk (knd:=aJ X.prog X.w) hall hl h0 h15 (aC (h Y _ U _ _ I1 (q _ hn)) λws s2 ⟨ps,H2,I2,rel,e,kvs,ep,lk,q2⟩=>?_);subst ep;obtain⟨rs,c,rk⟩:=jX (P:=X.prog) (w:=X.w) rel;obtain⟨z,hd,vs0,r0,dd⟩:=pz I2.hok e;cases r0;refine⟨rs,c,dd,λh' dd' hs=>⟨.ref s.heap.objs.size,_,?_,rfl,q2⟩⟩;have hz:(bb [] kvs).length<=ce:=by
  have h1:=cq kvs [];rw[length_nil]at h1;rw[sizeLine_eq];omega
 have he:∃ q,h'.get? s.heap.objs.size=some q:=let⟨q,_,_,hq,_⟩:=dd';⟨q,hq⟩;exact je I2 (by rw[e];exact True.intro) hs he (qG hz hd (rk.merge .nil) dd')
abbrev qD (K:W.Frag)(C:Addr):Bool:=findIn K (.ref C) "__ne__" ==some (some (.builtin "object.__ne__"))&&vq K C
section
variable {A:Around}{s:Shared}{l C dx:Addr}{od:Option Obj}{K:W.Frag}{prog:Program}{w:World}{E:JU}
def Gp (X:K.In s.heap)(I:InstAt s.heap l (instObj C dx) C od)(h1:findIn K (.ref C) "__eq__"=some (some (.builtin "object.__eq__"))) (h3:subIn K (.ref C) (.type "object")=some true) (h:Q (some (.bool true)) s):wpAny (model prog w) A (callSpecialIfBound? (.ref l) "__eq__" [.ref l]) Q E s:=by
 simp only[callSpecialIfBound?,bindSpecialIfBound?];refine bi (am (am (am (I.type.here ((looks_findIn X h1).here ?_)))));simp only[PySem.F.cmp_object.eq.bind];have fin:wpAny (model prog w) A (call (.builtin "object.__eq__") ([.ref l]++[.ref l]) >>= λv=>pure (some v)) Q E s:=by
  refine am (wpAny_call (codeAny_call_builtin PySem.F.cmp_object.eq.plain PySem.F.cmpEntry_eq ?_));simp only[checkBuiltinCall,PySem.F.cmpKind_eq,PySem.F.cmpSplit_eq];refine am (am (I.type.here ((looks_subIn X h3).here ?_)));rw[if_neg (by simp)];have ha:=PySem.F.cmpArgs_eq (.ref l) (.ref l);have h0:(match Manifest.signature? "object.__eq__" with|some sig=>Bind.checkArgs "object.__eq__" sig { pos:=[Value.ref l]++[Value.ref l] }|x=>pure ())=pure ():=ha;refine wpAny_of_eq h0 ?_;exact objEq_entry_same (ap h)
 refine am (wpAny_askSetting (wpAny_ite ?_))
 split
 .exact am (ap (ap fin))
 .exact wpAny_tryCatch (am (ap (ap fin)))
def GW (X:K.In s.heap)(I:InstAt s.heap l (instObj C dx) C od)(h1:findIn K (.ref C) "__eq__"=some (some (.builtin "object.__eq__"))) (h2:findIn K (.ref C) "__ne__"=some (some (.builtin "object.__ne__"))) (h3:subIn K (.ref C) (.type "object")=some true) (hu:A.units+2<cLine) (h:Q (some (.bool false)) s):wpAny (model prog w) A (callSpecialIfBound? (.ref l) "__ne__" [.ref l]) Q E s:=by
 simp only[callSpecialIfBound?,bindSpecialIfBound?];refine bi (am (am (am (I.type.here ((looks_findIn X h2).here ?_)))));simp only[PySem.F.cmp_object.ne.bind];have fin:wpAny (model prog w) A (call (.builtin "object.__ne__") ([.ref l]++[.ref l]) >>= λv=>pure (some v)) Q E s:=by
  refine am (wpAny_call (codeAny_call_builtin PySem.F.cmp_object.ne.plain PySem.F.cmpEntry_ne ?_));simp only[checkBuiltinCall,PySem.F.cmpKind_ne,PySem.F.cmpSplit_ne];refine am (am (I.type.here ((looks_subIn X h3).here ?_)));rw[if_neg (by simp)];have ha:=PySem.F.cmpArgs_ne (.ref l) (.ref l);have h0:(match Manifest.signature? "object.__ne__" with|some sig=>Bind.checkArgs "object.__ne__" sig { pos:=[Value.ref l]++[Value.ref l] }|x=>pure ())=pure ():=ha;refine wpAny_of_eq h0 ?_;unfold Builtin.«object.__ne__»;show wpAny _ _ (pure (Value.ref l,[Value.ref l]) >>= _) _ _ _;refine am (ap ?_);refine am (wpAny_cRoomFor (show A.units+1<cLine by omega) ?_);refine am (Gp X I h1 h3 ?_);refine am (bm ?_);exact ap (ap h)
 refine am (wpAny_askSetting (wpAny_ite ?_))
 split
 .exact am (ap (ap fin))
 .exact wpAny_tryCatch (am (ap (ap fin)))
def tM (X:K.In s.heap)(I:InstAt s.heap l (instObj C dx) C od)(hC:qD K C=true)(hu:A.units+3<cLine):SeqAt.RcNeAt A s (.ref l) (.ref l) false:=λprog w E Q h=>by
 unfold qD vq at hC;simp only[mo,beq_iff_eq]at hC;obtain⟨h0,⟨h1,h2⟩,h3⟩:=hC;simp only[richCompare,PySem.cmpInfo_NotEq]
 try with_reducible refine bi ?_
 refine am (wpAny_cRoomFor nofun ?_);show wpAny _ _ (typeOf (Value.ref l) >>= _) _ _ _;refine am (I.type.here (am (I.type.here ?_)));rw[if_neg (by simp)];refine am (ap ?_);rw[if_neg (by simp)];refine am ?_;simp only[tryCompare];refine am (GW X I h1 h0 h3 nofun ?_);exact ap (ap h)
def Gv (d:Addr)(hd:(d ==sysModules)=false)(dd:Option Addr)(ep:Nat)(sl:Array (Option Value)):Meets (Builtin.«dict.__ne__» ⟨[.ref d,.ref d],[]⟩) (λ_ R s=>s.heap.get? d=some ⟨.type "dict",dd,.dict #[] ep,sl⟩/\R (.ok (.ret (.bool false))) s):=by
 intro prog w A R s hs;obtain⟨h,g,dp,tt,os⟩:=s;obtain⟨ho,q⟩:=hs;have hT:(⟨h,g,dp,tt,os⟩:Shared).TypeIs (.ref d) "dict":=⟨_,ho,rfl⟩;unfold Builtin.«dict.__ne__»
 k_delta "equality"
 unfold Builtin.Dict.dictSlotArgs;refine am (am (wpAny_notOrdered_dict hT ?_));show wpAny _ _ (pure (Value.ref d,[Value.ref d]) >>= _) _ _ _;refine am (ap (ap ?_));have hi:=PySem.F.kt_sub_dict;show wpAny _ _ (isInstance (.ref d) (.type "dict") >>= _) _ _ _;unfold Builtin.Dict.samePairs;simp only[Std.Legacy.Range.forIn_eq_forIn_range']
 repeat(any_goals first|assumption|wp_step)
def yu (hd:(d ==sysModules)=false){ep:Nat}(ho:s.heap.get? d=some ⟨.type "dict",dd,.dict #[] ep,sl⟩) (hu:A.units<cLine):SeqAt.RcNeAt A s (.ref d) (.ref d) false:=λprog w E Q h=>
 richCompare_meets_room (op:=.NotEq) ⟨_,ho,rfl⟩ ⟨_,ho,rfl⟩ PySem.F.slot_dict_ne PySem.F.entry_dict_ne (PySem.F.args_dict_ne_2 _ _) (Gv d hd dd ep sl) ⟨ho,show Value.bool false≠Value.notImplemented/\Q (.bool false) s from⟨(λx=>nomatch x),h⟩⟩ hu
abbrev xy (K:W.Frag)(H:Hp)(a:Addr):Prop:=(∃ xs,a5 K H a xs)\/H a=some (.dK [])\/(∃ C dx fs,H a=some (.ins C dx fs)/\qD K C=true)\/∃ xs,aP K H a xs
def yY {U:St}{H:Hp}{a:Addr}(I:Inv X Y U H s)(h:xy X.K H a)(hu:A.units+3<cLine):SeqAt.RcNeAt A s (.ref a) (.ref a) false:=by
 rcases h with⟨xs,h⟩|h|⟨C,dx,fs,h,hn⟩|⟨xs,h⟩
 .obtain⟨ia,ra,pa,_⟩:=I.tuple h;have rc:=SeqAt.RcNeAt.tuples (A:=A) (e:=λ_=>true) (show s.heap.IsTuple a ia.toArray from pa) (show s.heap.IsTuple a ia.toArray from pa) nofun λj h1 h2=>SeqAt.EqAt.same _
  have e:((List.range (min ia.toArray.size ia.toArray.size)).all (λ_=>true)&&ia.toArray.size ==ia.toArray.size)=true:=by simp
  rw[e]at rc;exact rc
 .obtain⟨z,hd,vs,rel,dd⟩:=iQ I.hok (.inl h);cases rel;obtain⟨⟨c,d,da,sl⟩,es,ep,ho,hx,he,_,hp,_⟩:=dd;have e0:es=#[]:=by
   cases hp':es.toList with
   |nil=>exact Array.toList_eq_nil_iff.mp hp'
   |cons a b=>rw[hp']at hp;cases hp
  subst e0;obtain rfl:da=.dict #[] ep:=he;obtain⟨rfl,_⟩:=hx;exact yu hd ho nofun
 .obtain⟨mA,o,_⟩:=eh I.hok h;obtain⟨od,i,_⟩:=o.look;exact tM I.bw i hn hu
 .obtain⟨ia,ra,pa,_⟩:=I.list h;have rc:=SeqAt.RcNeAt.lists (A:=A) (e:=λ_=>true) pa.isList pa.isList rfl nofun λj h1 h2=>SeqAt.EqAt.same _
  have e:(List.range ia.toArray.size).all (λ_=>true)=true:=by simp
  rw[e]at rc;exact rc
end
end L2
namespace L2
open PySem PySem.Spec PyProof.Rows
section
variable {X:Cx}{tg:Expr}
end
end L2
namespace L2
open PySem PySem.Spec PySem.W PyProof.Rows
open PySem.AutoSeq1 (wpAny_loadPart')
section
variable {prog:Program}{w:World}{A:Around}{E:JU}{s:Shared}
end
section
variable {X:Cx}{Y:JV}{U:St}{H:Hp}{s:Shared}
def FK {a b:Addr}{kvs more:List (Key×V)}{A:Around}{E:JU}{Q:JU}(I:Inv X Y U H s)(e:H a=some (.dK kvs))(eb:H b=some (.dK more))(hab:a≠b)(hl:kvs.length+more.length<=1000)(q:∀ s',Inv X Y U (upd H a (.dK (bb kvs more))) s'->Q .none s'):
  wpAny (model X.prog X.w) A (call (.builtin "dict.update") [.ref a,.ref b]) Q E s:=by
 obtain⟨_,hd,vs,rel,dd⟩:=pz I.hok e;obtain⟨_,hd2,vs2,rel2,dd2⟩:=pz I.hok eb;refine call_meetsIn PySem.F.slot_dict_update dd.typeIs PySem.F.entry_dict_update (PySem.F.args_dict_update_2 _ _) (meets_dict_update (aJ X.prog X.w) a b hab hd2) ⟨vs,vs2,dd,dd2,?_,λh' dd' _ hs=>q _ ?_⟩
 .rw[<-rel.length,<-rel2.length,sizeLine_eq];omega
 .have he:∃ q,h'.get? a=some q:=let⟨q,_,_,hq,_⟩:=dd';⟨q,hq⟩;have hz:(bb kvs more).length<=ce:=by
   have h1:=cq more kvs;rw[sizeLine_eq];omega
  exact je I (by rw[e];exact True.intro) hs he (qG hz hd (rel2.merge rel) dd')
abbrev HX (td:TE)(t:TA):TE:=λU H Q=>td U H λx H1=>∃ a kvs0,x=.ref a/\H1 a=some (.dK kvs0)/\t U H1 λvs H2=>∃ kvs more b,vs=[.ref b]/\a≠b/\H2 a=some (.dK kvs)/\H2 b=some (.dK more)/\kvs.length+more.length<=1000/\Q .non (upd H2 a (.dK (bb kvs more)))
def DW {o e:Expr}{td:TE}{t:TA}{apos cpos:Pos}(ho:PE X o td)(ha:PA X [e] t)(hbase:attributeBase o "update" X.env (eval o X.env)=eval o X.env)
  (hfew:((backTo cpos (bv [e] X.env)).all (λx=>!x.1)&&(backToKw cpos (keywordEach [] X.env)).all (λx=>x.1.isSome)&&decide ([e].length+([]:List Keyword).length+(if([]:List Keyword).isEmpty then 0 else 1)<30))=true)
  (hline:(apos.endLine ==cpos.line)=true) (hs:bv [e] X.env=(false,eval e X.env)::bv [] X.env):
  PE X (.Call (.Attribute o "update" apos) [e] [] cpos) (HX td t):=by
 intro Y s U H Q I h;refine wpAny_Call_method_late hbase hfew hline rfl (aC (ho Y s U H _ I h) λv s1 ⟨x,H1,I1,r1,a,kvs0,ex,e0,q1⟩=>?_);subst ex;obtain rfl:v=Value.ref a:=r1;obtain⟨_,hd,vs,_,dd⟩:=pz I1.hok e0;refine⟨"dict","dict.update",PySem.F.plainAttrs_dict,PySem.F.slot_dict_update,PySem.F.type_dict_update,dd.typeIs,λb q=>?_,?_⟩
 .cases q;obtain⟨ob,_,_,h1,h2,_⟩:=dd;exact⟨ob,h1,h2.2.1⟩
 have hA:=ha cpos Y s1 U H1 _ I1 q1;rw[hs]at hA⊢;refine Calls.callWith_builtin rfl (Calls.evalArgs_plain ?_);refine aC hA λus s2 ⟨vs,H2,I2,r2,kvs,more,b,ev,hab,e2,eb,hl,q2⟩=>?_
 subst ev;cases r2 with
 |cons ry rr=>
  cases rr;cases(show _=Value.ref b from ry);exact FK I2 e2 eb hab hl λs3 I3=>⟨.non,_,I3,rfl,q2⟩
end
section
variable {prog:Program}{w:World}{A:Around}{E:JU}{s:Shared}
variable {z TI TO i1 i2 i3 l1 l2 l3:Addr}{k1 k2 k3:Nat}{tp1 tp2 tp3:Bool}{xs ys zs:Array Value}{x y v a b c f1:Value}
end
variable {X:Cx}{e es:Expr}{te:TE}{ts:TO}{p2 pos:Pos}
def rN:∀ {xs:List V}{us:List Value},xs.length=us.length->(∀ (j:Nat) (x:V) (u:Value),xs[j]? =some x->us[j]? =some u->RelV x u)->Vals xs us
 | [],[],_,_=>.nil
 |x::xs,u::us,e,h=>.cons (h 0 x u rfl rfl) (rN (Nat.succ.inj e) λj a b e1 e2=>h (j+1) a b e1 e2)
def sM:∀ {kvs:List (Key×V)}{vs:List (Key×Value)},KV kvs vs->kvs.map (·.1)=vs.map (·.1)
 |_,_,.nil=>rfl
 |_,_,.cons r rs=>by rw[map_cons,map_cons,r.1,sM rs]
def pX {Y:JV}{U:St}{H:Hp}{s:Shared}{Q:VK}{d:Addr}{kvs:List (Key×V)}(hc:X.calm=true)(I:Inv X Y U H s)(e:Rd H d (.dK kvs))(q:∀ p,H p=none->Q (.ref p) (upd H p (.lst (kvs.map (λkv=>kV kv.1))))):
  wpAny (model X.prog X.w) X.A (call (.type "list") [.ref d]) (EP X Y U Q) X.xe s:=by
 obtain⟨hz,hd,vs,rel,dd⟩:=iQ I.hok e;obtain⟨o,es,ep,ho,hx,he,hk,hp,hn⟩:=dd;have hA:s.heap.DictAt (aJ X.prog X.w) d vs ep:=⟨o,es,ho,hx,he,hk,hp,hn⟩;have hl:vs.length<=ce:=by rw[<-rel.length];exact hz
 refine kdl_call (kdl_dict hd) (I.ok.hd hc) hA hl λh' tk acc c' hk' hD hi=>?_
 have r:Vals (kvs.map (λkv=>kV kv.1)) acc.toList:=rN ((cr ..).trans (rel.length.trans (hi.1.symm.trans Array.length_toList.symm))) λj x u e1 e2=>by
  rw[jp]at e1;obtain⟨⟨k,y⟩,ek,rfl⟩:=nb.mp e1;obtain⟨k',y',ek',hs⟩:=hi.2 j u (by rw[<-Array.getElem?_toList];exact e2);have ekk:k=k':=by
   have h2:(kvs.map (·.1))[j]? =(vs.map (·.1))[j]? :=by rw[sM rel]
   rw[jp,jp,ek,ek']at h2;exact Option.some.inj h2
  subst ekk;rcases aF hs with⟨i,t,rfl,rfl⟩|⟨z,t,rfl,rfl⟩
  .exact⟨t,rfl⟩
  .exact⟨t,rfl⟩
 exact⟨.ref _,_,I.laid (t':=tk) hk' (re _) (show ax X.prog X.w _ h' _ (.lst (kvs.map (λkv=>kV kv.1))) from⟨by rw[cr];exact hz,acc.toList,c',r,by rw[Array.toArray_toList];exact hD⟩),rfl,q _ (I.hok.fresh (re _))⟩
end L2
namespace L2
open PySem PySem.Spec PyProof.Rows
abbrev B2 (z:Str):It:=⟨λi _=>i<z.cps.size,λi H x H'=>H'=H/\∃ c,z.cps[i]? =some c/\x=.str ⟨#[c]⟩,λi _=>z.cps.size<=i⟩
def vF {P:Program}{w:World}{K:W.Frag}{tg:Expr}(it:Addr)(z:Str)(t:Tok):Turn P w K tg (B2 z) [it] it (λi h=>h.IsStrIter it (strIterType z) z t i) where
 mem:=by simp
 obj:=λi h st b hb=>by
  have e:b=it:=by simpa using hb
  subst e;obtain⟨o,e,c,d⟩:=st;exact⟨o,e,λv z=>by rw[d]at z;cases z⟩
 keep:=λi h h' st k=>let⟨o,ho,r⟩:=st;⟨o,k it (by simp) o ho,r⟩
 item:=by
  intro X hP hw hK hc i Y s U H E I hf st hg;subst hP hw hK;obtain⟨f0,f1,f2,f3,f4,f5⟩:=hf it (by simp);have go:∀ T,(T="str_ascii_iterator"\/T="str_iterator")->strIterType z=T->wpAny (model X.prog X.w) X.A (pyNext (.ref it)) (λr s1=>∃ u,r=some u/\
   wpAny (model X.prog X.w) X.A (letOwnedTupleGo tg (.ref it) u) (λ_ s2=>∃ x H',Inv X Y U H' s2/\RelV x u/\(B2 z).yld i H x H'/\s2.heap.IsStrIter it (strIterType z) z t (i+1)/\∀ b ∈ [it],H' b=none) E s1) E s:=by
   intro T hT eT;rw[eT]at st⊢;have fin:∀ v h' tk,SignAt z i v->h'.IsStrIter it T z t (i+1)->(∀ b o,b ∉ [it]->s.heap.get? b=some o->h'.get? b=some o)->∃ u,some v=some u/\
    wpAny (model X.prog X.w) X.A (letOwnedTupleGo tg (.ref it) u) (λ_ s2=>∃ x H',Inv X Y U H' s2/\RelV x u/\(B2 z).yld i H x H'/\s2.heap.IsStrIter it T z t (i+1)/\∀ b ∈ [it],H' b=none) E { s with heap:=h',toks:=tk }:=by
    intro v h' tk hv st' kk;obtain⟨c,u,hc',rfl⟩:=hv;have I1:Inv X Y U H { s with heap:=h',toks:=tk }:=I.turned (λb o hb e=>kk b o (by simpa using hb) e) f0 f1 f3 f4 f5;obtain⟨o,e,cc,d⟩:=id st';exact⟨_,rfl,sV (s:={ s with heap:=h',toks:=tk }) e cc d (by rcases hT with rfl|rfl<;>decide) ⟨.str ⟨#[c]⟩,H,I1,⟨u,rfl⟩,⟨rfl,c,hc',rfl⟩,st',λb hb=>(hf b hb).1⟩⟩
   rcases hT with rfl|rfl
   .exact(Walks.strAscii (prog:=X.prog) (w:=X.w) (I.ok.hd hc) it z t).item i s _ _ hg st fin
   .exact(Walks.strWide (prog:=X.prog) (w:=X.w) (I.ok.hd hc) it z t).item i s _ _ hg st fin
  have hz:strIterType z="str_ascii_iterator"\/strIterType z="str_iterator":=by unfold strIterType;split<;>simp
  exact go _ hz rfl
 done:=by
  intro X hP hw hK hc i Y s U H E I hf st hg;subst hP hw hK;obtain⟨f0,f1,f2,f3,f4,f5⟩:=hf it (by simp);have hx:z.cps[i]? =none:=Array.getElem?_eq_none hg;have fin:∀ h',Heap.ExtBut it s.heap h'->(none:Option Value)=none/\Inv X Y U H { s with heap:=h' }:=λh' eb=>⟨rfl,I.turned (t':=s.toks) (λb o hb e=>eb b o hb e) f0 f1 f3 f4 f5⟩
  unfold strIterType at st
  split at st
  .exact wpAny_pyNext_ascii_end (I.ok.hd hc) st hx fin
  .exact wpAny_pyNext_wide_end (I.ok.hd hc) st hx fin
 self:=λ_ _ _ _ _ st h=>by
  unfold strIterType at st
  split at st
  .exact wpAny_pyIter_striter_ascii st h
  .exact wpAny_pyIter_striter_wide st h
def wx {X:Cx}{tg:Expr}{Y:JV}{U:L2.St}{H1:Hp}{s1:Shared}{R:It->Hp->Prop}{z:Str}{v:Value}(I1:Inv X Y U H1 s1)(r:RelV (.str z) v)(q:R (B2 z) H1):
  wpAny (model X.prog X.w) X.A (pyIter v) (FA X Y U tg R) X.xe s1:=by
 obtain⟨t,rfl⟩:=r;refine wpAny_pyIter_strU ?_;refine⟨s1.heap.objs.size,[s1.heap.objs.size],_,_,H1,rfl,I1.kept (t':=s1.toks) λb o e=>tz _ e,vF _ z t,⟨_,ul _ rfl,rfl,rfl⟩,λb hb=>?_,q⟩;have e:b=s1.heap.objs.size:=by simpa using hb
 subst e;exact I1.vb (re _) (I1.hok.fresh (re _))
def Inv.ji {X:Cx}{Y:JV}{U:L2.St}{H:Hp}{s:Shared}{d:Addr}{kvs:List (Key×V)}(I:Inv X Y U H s)(e:H d=some (.dK kvs)):∃ o,Inv X Y U (upd H d (.ji o (.dK kvs))) s:=by
 obtain⟨_,_,vs,rel,o,es,ep,ho,r⟩:=id (show ax X.prog X.w H s.heap d (.dK kvs) from I.hok d _ e);have ne:∀ b u,H b=some u->u≠.dK kvs->b≠d:=λb u hb hn z=>by subst z;rw[e]at hb;cases hb;exact hn rfl
 refine⟨o,I.step (h':=s.heap) (t':=s.toks) (g':=s.gens) (d':=s.drawn) (ch:=[]) (λ_ z=>nomatch z) (λb o _ _ _ e _=>e) (λb o _ _ _ e _=>⟨o.slots,e⟩) (λb o _ _ n=>by rw[ag (λz=>by subst z;rw[e]at n;cases n)];exact n) (λb o _ e=>⟨o,e⟩)
  (λb xs h=>by rw[ag (ne b _ h (λz=>by cases z))];exact h) (λb o u h=>by rw[ag (ne b _ h (λz=>by cases z))];exact h) (λb ps h=>⟨#[],by rw[ag (ne b _ h (λz=>by cases z)),h];simp⟩) (λm hm=>hm) (λb u hb=>?_) I.bare⟩
 have eO:∀ b u,H b=some u->ax X.prog X.w (upd H d (.ji o (.dK kvs))) s.heap b u:=λb u hb=>(I.hok b u hb).eO (λ_ _ _ e=>e) (λc hc=>by rw[ag (ne c _ hc (λz=>by cases z))];exact hc) (λc xs hc=>by rw[ag (ne c _ hc (λz=>by cases z))];exact hc)
 by_cases z:b=d
 .subst z;rw[ar]at hb;cases hb;exact⟨ho,eO _ _ e⟩
 .rw[ag z]at hb;exact eO b u hb
section
variable {X:Cx}
def kP:∀ {us:List Value}{ys:List Str},Vals (ys.map V.str) us->StrsAre us ys
 |_,[],.nil=>.nil
 |_,y::ys,.cons r h=>by
  obtain⟨t,rfl⟩:=r;exact .cons y t (kP h)
def kD:∀ l:List (Str×Tok),Vals ((l.map (·.1)).map V.str) (strValues l)
 | []=>.nil
 |(y,t)::l=>.cons ⟨t,rfl⟩ (kD l)
abbrev rJoin (K:W.Frag):V->List V->Hp->VK->Prop:=λx vs H Q=>∃ z p,∃ ys:List Str,x=.str z/\vs=[.ref p]/\aP K H p (ys.map V.str)/\(ys.map (·.length)).sum+ys.length<=1000000/\z.length<=16/\Q (.str (Txt.join z ys)) H
def yx:B6 X "str.join" (rJoin X.K):=by
 intro Y s U H x vs v us Q I rx rv h;obtain⟨z,p,ys,rfl,rfl,hp,hw,hz,q⟩:=h;obtain⟨t,rfl⟩:=rx;cases rv with
 |cons r rv=>
  cases rv;cases r;obtain⟨its,rl,pl,_⟩:=I.list hp;exact join_listW pl.isList (by rw[List.toList_toArray];exact kP rl) hz nofun λt' k=>⟨.str _,H,I.tok _,⟨t',rfl⟩,q⟩
abbrev mN:V->List V->Hp->VK->Prop:=λx vs H Q=>∃ z y,x=.str z/\vs=[.str y]/\Q (.bl (Txt.startswith z y)) H
def tD:B6 X "str.startswith" mN:=by
 intro Y s U H x vs v us Q I rx rv h;obtain⟨z,y,rfl,rfl,q⟩:=h;obtain⟨t,rfl⟩:=rx;cases rv with
 |cons r rv=>
  cases rv;obtain⟨t',rfl⟩:=r;exact PySem.SC.startswith ⟨.bl _,H,I,rfl,q⟩
abbrev qi:V->List V->Hp->VK->Prop:=λx vs H Q=>∃ z y:Str,x=.str z/\vs=[.str y]/\(y.length ==0)=false/\z.length<=100000/\∀ p,H p=none->Q (.ref p) (upd H p (.lst ((Txt.split z y).map V.str)))
def xX:B6 X "str.split" qi:=by
 intro Y s U H x vs v us Q I rx rv h;obtain⟨z,y,rfl,rfl,hy,hz,q⟩:=h;obtain⟨t,rfl⟩:=rx;cases rv with
 |cons r rv=>
  cases rv;obtain⟨u,rfl⟩:=r;have hsp:(Txt.split z y).length<=200000:=Nat.le_trans (fact_split z y).2 nofun;have fin:∀ (l:List (Str×Tok)) (k:Nat),l.map (·.1)=Txt.split z y->EP X Y U Q (.ref s.heap.objs.size) { s with toks:=k,heap:=s.heap.push { cls:=.type "list",data:=.seq (strValues l).toArray } }:=λl k e=>by
   refine⟨.ref s.heap.objs.size,_,I.laid (t':=k) (λb o e=>tz _ e) (re _) (o:=.lst ((Txt.split z y).map V.str)) ⟨?_,strValues l,0,by rw[<-e];exact kD l,ul _ rfl⟩,rfl,q _ (I.hok.fresh (re _))⟩;rw[cr,sizeLine_eq]
   omega
  have hsz:z.length<=ce:=by rw[sizeLine_eq];omega
  open PySem.Builtin.Str in
  cases h1:(decide (z.length<y.length)||decide (strKind z<strKind y))
  .cases hf:(occurrences z y 0 z.length (z.length+1)).isEmpty
   .have e:Txt.split z y=_:=(if_neg (ne_true_of_eq_false h1)).trans (if_neg (ne_true_of_eq_false hf));refine call_meets F.slot_str_split (typeIs_str _ _ _) F.entry_str_split (F.args_str_split_2 _ _) (meets_str_split_sep z y t u h1 hy hf hsz ?_) ?_
    .have e2:=congrArg List.length e;rw[sizeLine_eq,<-e2]
     omega
    .show wants _ _ _ { s with toks:=_,heap:=s.heap.push { cls:=.type "list",data:=.seq (strsFrom s.toks (partsBetween z (occurrences z y 0 z.length (z.length+1)) y.length)).toArray } };rw[strsFrom_eq];exact fin (numbered s.toks _) _ ((numbered_texts _ _).trans e.symm)
   .exact call_meets F.slot_str_split (typeIs_str _ _ _) F.entry_str_split (F.args_str_split_2 _ _) (meets_str_split_not_found z y t u h1 hy hf)
     (fin [(z,t)] s.toks ((if_neg (ne_true_of_eq_false h1)).trans (if_pos hf)).symm)
  .exact call_meets F.slot_str_split (typeIs_str _ _ _) F.entry_str_split (F.args_str_split_2 _ _) (meets_str_split_cannot_occur z y t u h1)
    (fin [(z,t)] s.toks (if_pos h1).symm)
end
end L2
namespace L2
open PySem PySem.Spec PySem.W PyProof.Rows SeqAt
open AutoSeq1 (wpAny_loadPart')
open MeetsSeq MeetsSeq2 MeetsSeq3 SeqRoads2
section
variable {prog:Program}{w:World}
end
end L2
namespace L2
open PySem PySem.Spec PySem.W PyProof.Rows PySem.Calls PyProof.V
section
variable {X:Cx}{Y:JV}{U:St}{H:Hp}{s:Shared}{a:Addr}{D:List (Str×Str)}{k w:Str}{t:Tok}{A:Around}{E:JU}
def t8 {x:Str}{n:Int}{Q:JU}(hn:PySem.intText? x=some n)(hl:x.length<=640)(h:Q (.int n s.toks) { s with toks:=s.toks+1 }):wpAny (model X.prog X.w) A (call (.type "int") [.str x t]) Q E s:=KIN.call_text hn hl h
end
abbrev fv (z:Str)(lo hi:Option Int):Str:=⟨((z.cps.toList.drop (HT.aO z.length 0 lo)).take (HT.aO z.length z.length hi-HT.aO z.length 0 lo)).toArray⟩
def gG (z:Str)(lo hi:Option Int):(fv z lo hi).length<=z.length:=by
 show(List.toArray _).size<=z.cps.size;rw[im,dL,le,Array.length_toList]
 omega
def rW (lo hi:Option Int)(n:Nat):Builtin.Str.strSliceIndices lo hi 1 n=(List.range (HT.aO n n hi-HT.aO n 0 lo)).map (HT.aO n 0 lo+·):=by
 rw[<-sliceRange_one];have e:∀ (o:Option Int) (d:Nat),(match o with|none=>(d:Int)|some i=>max 0 (min (if i<0 then i+(n:Int) else i) (n:Int)))=((HT.aO n d o:Nat):Int):=λo d=>by
  cases o with
  |none=>rfl
  |some i=>
   simp only[HT.aO]
   by_cases h:i<0
   .simp only[h,if_true]<;>omega
   .simp only[h,if_false]<;>omega
 rw[<-e lo 0,<-e hi n]
 rfl
def xF (z:Str)(l u:Option (Int×Tok)):(⟨((slicePicked z l u none).filterMap (z.cps[·]?)).toArray⟩:Str)=fv z (l.map (·.1)) (u.map (·.1)):=by
 unfold slicePicked fv;simp only[Option.map_none,Option.getD_none];rw[rW,pick_run]
def tN (z:Str)(l u:Option (Int×Tok))(h:(slicePicked z l u none).length=z.length):z=fv z (l.map (·.1)) (u.map (·.1)):=by
 unfold slicePicked at h;simp only[Option.map_none,Option.getD_none]at h;rw[rW,cr,List.length_range]at h;have h1:=HT.xV z.length z.length (re _) (u.map (·.1));have h2:HT.aO z.length 0 (l.map (·.1))=0\/z.length=0:=by omega
 unfold fv;apply Str.ext';apply Array.toList_inj.mp;rcases h2 with h2|h2
 .rw[h,h2,drop_zero];exact(take_of_length_le (by simp[Str.length])).symm
 .have e:z.cps.toList=[]:=length_eq_zero_iff.mp (by simpa[Str.length] using h2);simp[e]
end L2
namespace L2
open PySem PySem.Spec PyProof.Rows
inductive eZ (K:W.Frag) (H:Hp):Nat->V->V->Bool->Prop where
 |flat {n:Nat}{x y:V}(fx:aE x=true) (fy:aE y=true):eZ K H n x y (gL x y)
 |same {n:Nat}(a:Addr):eZ K H (n+1) (.ref a) (.ref a) true
 |ll {n:Nat}{a b:Addr}{xs ys:List V}{e:Nat->Bool}(ha:aP K H a xs) (hb:aP K H b ys) (hl:xs.length=ys.length) (h:∀ j x y,xs[j]? =some x->ys[j]? =some y->eZ K H (n+1) x y (e j)):eZ K H (n+2) (.ref a) (.ref b) ((List.range xs.length).all e)
 |lln {n:Nat}{a b:Addr}{xs ys:List V}(ha:aP K H a xs) (hb:aP K H b ys) (hl:xs.length≠ys.length):eZ K H (n+2) (.ref a) (.ref b) false
 |tt {n:Nat}{a b:Addr}{xs ys:List V}{e:Nat->Bool}(ha:a5 K H a xs) (hb:a5 K H b ys) (h:∀ j x y,xs[j]? =some x->ys[j]? =some y->eZ K H (n+1) x y (e j)):eZ K H (n+2) (.ref a) (.ref b) ((List.range (min xs.length ys.length)).all e&&xs.length ==ys.length)
variable {A:Around}
section
variable {X:Cx}{Y:JV}{s:Shared}{U:St}{H:Hp}
def wm {y x:V}{u v:Value}(ry:RelV y u)(rx:RelV x v)(fy:aE y=true)(fx:aE x=true):SeqAt.RcAt A s u v (gL y x):=by
 cases y<;>first|cases fy|skip
 all_goals (cases x<;>first|cases fx|skip)
 all_goals (first|(obtain⟨t,rfl⟩:=ry)|cases ry)
 all_goals (first|(obtain⟨t',rfl⟩:=rx)|cases rx)
 .exact SeqAt.RcAt.none_none
 .exact SeqAt.RcAt.none_bool _
 .exact SeqAt.RcAt.none_int _ _
 .exact SeqAt.RcAt.none_str _ _
 .exact SeqAt.RcAt.bool_none _
 .exact SeqAt.RcAt.bool_bool _ _
 .exact SeqAt.RcAt.bool_int _ _ _
 .exact SeqAt.RcAt.bool_str _ _ _
 .exact SeqAt.RcAt.int_none _ _
 .exact SeqAt.RcAt.int_bool _ _ _
 .exact SeqAt.RcAt.int_int _ _ _ _
 .exact SeqAt.RcAt.int_str _ _ _ _
 .exact SeqAt.RcAt.str_none _ _
 .exact SeqAt.RcAt.str_bool _ _ _
 .exact SeqAt.RcAt.str_int _ _ _ _
 .exact SeqAt.RcAt.str_str _ _ _ _
def n9 {y x:V}{u v:Value}(ry:RelV y u)(rx:RelV x v)(fy:aE y=true)(fx:aE x=true):SeqAt.RcNeAt A s u v (!gL y x):=by
 cases y<;>first|cases fy|skip
 all_goals (cases x<;>first|cases fx|skip)
 all_goals (first|(obtain⟨t,rfl⟩:=ry)|cases ry)
 all_goals (first|(obtain⟨t',rfl⟩:=rx)|cases rx)
 .exact SeqAt.RcNeAt.none_none
 .exact SeqAt.RcNeAt.none_bool _
 .exact SeqAt.RcNeAt.none_int _ _
 .exact SeqAt.RcNeAt.none_str _ _
 .exact SeqAt.RcNeAt.bool_none _
 .exact SeqAt.RcNeAt.bool_bool _ _
 .exact SeqAt.RcNeAt.bool_int _ _ _
 .exact SeqAt.RcNeAt.bool_str _ _ _
 .exact SeqAt.RcNeAt.int_none _ _
 .exact SeqAt.RcNeAt.int_bool _ _ _
 .exact SeqAt.RcNeAt.int_int _ _ _ _
 .exact SeqAt.RcNeAt.int_str _ _ _ _
 .exact SeqAt.RcNeAt.str_none _ _
 .exact SeqAt.RcNeAt.str_bool _ _ _
 .exact SeqAt.RcNeAt.str_int _ _ _ _
 .exact SeqAt.RcNeAt.str_str _ _ _ _
def eqv_refl (I:Inv X Y U H s):∀ {n:Nat}{x y:V}{b:Bool},eZ X.K H n x y b->x=y->b=true:=by
 intro n x y b h
 induction h with
 | @flat n x y fx fy=>
  rintro rfl;cases x<;>first|(exact absurd fx Bool.false_ne_true)|simp[gL]
 |same a=>intro _;rfl
 | @ll n a b xs ys e ha hb hl h ih=>
  intro z;cases z;have:=I.gj ha hb;subst this;rw[all_eq_true];intro j hj;have hj':j<xs.length:=mem_range.mp hj;exact ih j _ _ (li hj') (li hj') rfl
 |lln ha hb hl=>intro z;cases z;exact absurd (congrArg List.length (I.gj ha hb)) hl
 | @tt n a b xs ys e ha hb h ih=>
  intro z;cases z;have:=I.kS ha hb;subst this;rw[beq_self_eq_true,Bool.and_true,Nat.min_self,all_eq_true];intro j hj;have hj':j<xs.length:=mem_range.mp hj;exact ih j _ _ (li hj') (li hj') rfl
def nv (I:Inv X Y U H s):∀ {n:Nat}{x y:V}{b:Bool},eZ X.K H n x y b->∀ {A:Around}{u v:Value},A.units+n<cLine->RelV x u->RelV y v->
  (SeqAt.EqAt A s u v b)/\(x=y\/SeqAt.RcAt A s u v b/\SeqAt.RcNeAt A s u v (!b)):=by
 intro n x y b h
 induction h with
 |flat fx fy=>intro A u v _ rx ry;exact⟨vn rx ry fx fy,.inr ⟨wm rx ry fx fy,n9 rx ry fx fy⟩⟩
 |same a=>intro A u v _ rx ry;cases rx;cases ry;exact⟨SeqAt.EqAt.same _,.inl rfl⟩
 | @ll n a b xs ys e ha hb hl h ih=>
  intro A u v hu rx ry;have hall:=eZ.ll ha hb hl h;cases rx;cases ry
  by_cases hab:a=b
  .subst hab;have z:=eqv_refl I hall rfl;rw[z];exact⟨SeqAt.EqAt.same _,.inl rfl⟩
  obtain⟨ia,ra,pa,_⟩:=I.list ha;obtain⟨ib,rb,pb,_⟩:=I.list hb;have e1:ia.toArray.size=xs.length:=by rw[im,ra.length]
  have e2:ib.toArray.size=ys.length:=by rw[im,rb.length]
  have he:∀ j (h1:j<ia.toArray.size) (h2:j<ib.toArray.size),SeqAt.EqAt A.in1 s ia.toArray[j] ib.toArray[j] (e j):=λj h1 h2=>by
   obtain⟨x1,f1,r1⟩:=jk ra h1;obtain⟨y1,f2,r2⟩:=jk rb h2;exact(ih j x1 y1 f1 f2 (by show A.units+1+(n+1)<cLine;omega) r1 r2).1
  have rc:=SeqAt.RcAt.lists (A:=A) pa.isList pb.isList (by rw[e1,e2,hl]) nofun he;have rn:=SeqAt.RcNeAt.lists (A:=A) pa.isList pb.isList (by rw[e1,e2,hl]) nofun he;rw[e1]at rc rn;exact⟨SeqAt.EqAt.of_refs hab rc,.inr ⟨rc,rn⟩⟩
 | @lln n a b xs ys ha hb hl=>
  intro A u v hu rx ry;cases rx;cases ry;obtain⟨ia,ra,pa,_⟩:=I.list ha;obtain⟨ib,rb,pb,_⟩:=I.list hb;have hab:a≠b:=λz=>by subst z;exact hl (congrArg List.length (I.gj ha hb))
  have hz:(ia.toArray.size != ib.toArray.size)=true:=by
   rw[im,im,<-ra.length,<-rb.length];simpa using hl
  have rc:=SeqAt.RcAt.lists_lengths (A:=A) pa.isList pb.isList hz nofun;exact⟨SeqAt.EqAt.of_refs hab rc,.inr ⟨rc,SeqAt.RcNeAt.lists_lengths (A:=A) pa.isList pb.isList hz nofun⟩⟩
 | @tt n a b xs ys e ha hb h ih=>
  intro A u v hu rx ry;have hall:=eZ.tt ha hb h;cases rx;cases ry
  by_cases hab:a=b
  .subst hab;have z:=eqv_refl I hall rfl;rw[z];exact⟨SeqAt.EqAt.same _,.inl rfl⟩
  obtain⟨ia,ra,pa,_⟩:=I.tuple ha;obtain⟨ib,rb,pb,_⟩:=I.tuple hb;have e1:ia.toArray.size=xs.length:=by rw[im,ra.length]
  have e2:ib.toArray.size=ys.length:=by rw[im,rb.length]
  have he:∀ j (h1:j<ia.toArray.size) (h2:j<ib.toArray.size),SeqAt.EqAt A.in1 s ia.toArray[j] ib.toArray[j] (e j):=λj h1 h2=>by
   obtain⟨x1,f1,r1⟩:=jk ra h1;obtain⟨y1,f2,r2⟩:=jk rb h2;exact(ih j x1 y1 f1 f2 (by show A.units+1+(n+1)<cLine;omega) r1 r2).1
  have rc:=SeqAt.RcAt.tuples (A:=A) (show s.heap.IsTuple a ia.toArray from pa) (show s.heap.IsTuple b ib.toArray from pb) nofun he;have rn:=SeqAt.RcNeAt.tuples (A:=A) (show s.heap.IsTuple a ia.toArray from pa) (show s.heap.IsTuple b ib.toArray from pb) nofun he;rw[e1,e2]at rc rn;exact⟨SeqAt.EqAt.of_refs hab rc,.inr ⟨rc,rn⟩⟩
@[irreducible] noncomputable def dw (K:W.Frag) (neg:Bool):R2:=λx y H Q=>False\/∃ n b,eZ K H n x y b/\n<=100/\(aE x=true\/x≠y\/(neg=false/\∃ a,x=.ref a/\vi K H a)\/(neg=true/\∃ a,x=.ref a/\xy K H a))/\Q (.bl (if neg then !b else b)) H
def Di (hu:X.A.units+200<cLine):cz X (compareOp .Eq) (dw X.K false):=by
 intro Y s U H x y v u Q I rx ry h;unfold dw at h;rcases h with z|⟨n,b,e,hn,hx,q⟩
 .exact z.elim
 rcases(nv I e (A:=X.A) nofun rx ry).2 with z|⟨z,_⟩
 .subst z;rcases hx with hx|hx
  .have z:=eqv_refl I e rfl;have r:=wm (s:=s) (A:=X.A) rx ry hx hx;have z2:=eqv_refl I (eZ.flat (K:=X.K) (H:=H) (n:=0) hx hx) rfl;rw[z2]at r;rw[z]at q;exact PySem.EqBoolInt.of_rc r ⟨.bl true,H,I,rfl,q⟩
  rcases hx with hx|⟨_,a,rfl,hs⟩|⟨hx,_⟩
  .exact absurd rfl hx
  .have z:=eqv_refl I e rfl;rw[z]at q;cases rx;cases ry;exact PySem.EqBoolInt.of_rc (As (A:=X.A) I hs nofun) ⟨.bl true,H,I,rfl,q⟩
  .cases hx
 .exact PySem.EqBoolInt.of_rc z ⟨.bl b,H,I,rfl,q⟩
def DJ (hu:X.A.units+200<cLine):cz X (compareOp .NotEq) (dw X.K true):=by
 intro Y s U H x y v u Q I rx ry h;unfold dw at h;rcases h with z|⟨n,b,e,hn,hx,q⟩
 .exact z.elim
 rcases(nv I e (A:=X.A) nofun rx ry).2 with z|⟨_,z⟩
 .subst z;rcases hx with hx|hx
  .have z:=eqv_refl I e rfl;have r:=n9 (s:=s) (A:=X.A) rx ry hx hx;have z2:=eqv_refl I (eZ.flat (K:=X.K) (H:=H) (n:=0) hx hx) rfl;rw[z2]at r;rw[z]at q;exact PySem.EqBoolInt.of_rcne r ⟨.bl false,H,I,rfl,q⟩
  rcases hx with hx|⟨hx,_⟩|⟨_,a,rfl,hs⟩
  .exact absurd rfl hx
  .cases hx
  .have z:=eqv_refl I e rfl;rw[z]at q;cases rx;cases ry;exact PySem.EqBoolInt.of_rcne (yY (A:=X.A) I hs nofun) ⟨.bl false,H,I,rfl,q⟩
 .exact PySem.EqBoolInt.of_rcne z ⟨.bl (!b),H,I,rfl,q⟩
end
@[irreducible] noncomputable def zV (K:W.Frag) (a b:Addr) (H:Hp) (Q:VK):Prop:=(∃ xs ys,H a=some (.lst xs)/\H b=some (.lst ys)/\xs.length+ys.length<=100000/\∀ p,H p=none->Q (.ref p) (upd H p (.lst (xs++ys))))\/False
@[irreducible] noncomputable def Fy (K:W.Frag) (a:Addr) (k:Int) (H:Hp) (Q:VK):Prop:=False\/False
abbrev DK (K:W.Frag):R2:=λx y H Q=>match x,y with
 | .int i,.int j=>Q (.int (i+j)) H
 | .str a,.str b=>a.length+b.length<=100000/\Q (.str (a++b)) H
 | .ref a,.ref b=>zV K a b H Q
 |_,_=>False
abbrev DX:R2:=λx y H Q=>match x,y with
 | .int i,.int j=>Q (.int (i-j)) H
 |_,_=>False
abbrev DQ (K:W.Frag):R2:=λx y H Q=>match x,y with
 | .int i,.int j=>tK i j/\Q (.int (i*j)) H
 | .ref a,.int k=>Fy K a k H Q
 |_,_=>False
abbrev En:R2:=λx y H Q=>match x,y with
 | .int i,.int j=>(0<j/\j<1073741824)/\Q (.int (i / j)) H
 |_,_=>False
abbrev D5:R2:=λx y H Q=>match x,y with
 | .int i,.int j=>0<j/\Q (.int (i % j)) H
 |_,_=>False
abbrev CQ:R2:=λx y H Q=>match x,y with
 | .int i,.int j=>zS i j/\Q (.int (i ^ j.toNat)) H
 |_,_=>False
abbrev CG (K:W.Frag)(op:Operator):R2:=match op with
 | .Add=>DK K
 | .Sub=>DX
 | .Mult=>DQ K
 | .FloorDiv=>En
 | .Mod=>D5
 | .Pow=>CQ
 |_=>λ_ _ _ _=>False
section
variable {X:Cx}
def f6 {n:Nat}(h:n<=1000000):n<=ce:=by rw[sizeLine_eq];omega
def Cf (op:Operator):cz X (binaryOp op) (CG X.K op):=by
 intro Y s U H x y v u Q I rx ry h;cases op with
 |Add=>
  have h':DK X.K x y H Q:=h;unfold DK at h'
  split at h'
  .exact C3 Y s U H _ _ v u Q I rx ry ⟨_,_,rfl,rfl,h'⟩
  .exact ql Y s U H _ _ v u Q I rx ry ⟨_,_,rfl,rfl,f6 nofun,h'.2⟩
  .unfold zV at h';rcases h' with⟨xs,ys,ha,hb,hz,q⟩|h'
   .exact EB Y s U H _ _ v u Q I rx ry ⟨_,_,xs,ys,rfl,rfl,ha,hb,f6 nofun,q⟩
   .exact h'.elim
  .exact h'.elim
 |Sub=>
  have h':DX x y H Q:=h;unfold DX at h'
  split at h'
  .exact DG Y s U H _ _ v u Q I rx ry ⟨_,_,rfl,rfl,h'⟩
  .exact h'.elim
 |Mult=>
  have h':DQ X.K x y H Q:=h;unfold DQ at h'
  split at h'
  .exact Ef Y s U H _ _ v u Q I rx ry ⟨_,_,rfl,rfl,h'.1,h'.2⟩
  .rename_i k;unfold Fy at h';rcases h' with h'|h'
   .exact h'.elim
   .exact h'.elim
  .exact h'.elim
 |FloorDiv=>
  have h':En x y H Q:=h;unfold En at h'
  split at h'
  .exact Ak Y s U H _ _ v u Q I rx ry ⟨_,_,rfl,rfl,h'.1,h'.2⟩
  .exact h'.elim
 |Mod=>
  have h':D5 x y H Q:=h;unfold D5 at h'
  split at h'
  .exact Ci Y s U H _ _ v u Q I rx ry ⟨_,_,rfl,rfl,h'.1,h'.2⟩
  .exact h'.elim
 |Pow=>
  have h':CQ x y H Q:=h;unfold CQ at h'
  split at h'
  .exact DH Y s U H _ _ v u Q I rx ry ⟨_,_,rfl,rfl,h'.1,h'.2⟩
  .exact h'.elim
 |_=>exact(show False from h).elim
abbrev uB (f:Int->Int->Bool):R2:=λx y H Q=>match x,y with
 | .int i,.int j=>Q (.bl (f i j)) H
 |_,_=>False
@[irreducible] noncomputable def m9 (K:W.Frag) (neg:Bool):R2:=λx y H Q=>match y with
 | .ref p=>(∃ xs,(aP K H p xs\/a5 K H p xs)/\aE x=true/\xs.all aE=true/\Q (.bl (if neg then !uM x xs else uM x xs)) H)\/(∃ o,t5 H p x o/\Q (.bl (if neg then !o.isSome else o.isSome)) H)\/False\/False
 | .str j=>∃ i,x=.str i/\Q (.bl (if neg then !(!(Builtin.Str.occurrences j i 0 j.length 1).isEmpty) else !(Builtin.Str.occurrences j i 0 j.length 1).isEmpty)) H
 |_=>False
@[irreducible] noncomputable def ym (neg:Bool):R2:=λx y H Q=>match y with
 | .non=>Q (.bl (if neg then !decide (x=.non) else decide (x=.non))) H
 | .bl b=>False
 | .ref b=>False
 |_=>False
abbrev o5 (K:W.Frag)(op:CmpOp):R2:=match op with
 | .Eq=>dw K false
 | .NotEq=>dw K true
 | .Lt=>uB λi j=>decide (i<j)
 | .LtE=>uB λi j=>decide (i<=j)
 | .Gt=>uB λi j=>decide (j<i)
 | .GtE=>uB λi j=>decide (j<=i)
 | .In=>m9 K false
 | .NotIn=>m9 K true
 | .Is=>ym false
 | .IsNot=>ym true
def lN {f:Int->Int->Bool}{op:CmpOp}(ho:cz X (compareOp op) (yA λi j=>.bl (f i j))):cz X (compareOp op) (uB f):=by
 intro Y s U H x y v u Q I rx ry h;unfold uB at h
 split at h
 .exact ho Y s U H _ _ v u Q I rx ry ⟨_,_,rfl,rfl,h⟩
 .exact h.elim
def CK (hu:X.A.units+200<cLine)(op:CmpOp):cz X (compareOp op) (o5 X.K op):=by
 cases op with
 |Eq=>exact Di hu
 |NotEq=>exact DJ hu
 |Lt=>exact lN E3
 |LtE=>exact lN Gk
 |Gt=>exact lN F8
 |GtE=>exact lN Fq
 |In=>
  intro Y s U H x y v u Q I rx ry h;have h':m9 X.K false x y H Q:=h;unfold m9 at h'
  split at h'
  .rcases h' with⟨xs,hx,f1,f2,q⟩|⟨o,g,q⟩|y|z
   .exact ur Y s U H _ _ v u Q I rx ry ⟨_,xs,rfl,hx,f1,f2,q⟩
   .cases ry;exact Ie nofun I g rx λs3 I3=>⟨.bl o.isSome,H,I3,rfl,q⟩
   .exact y.elim
   .exact z.elim
  .obtain⟨i,rfl,q⟩:=h';exact tQ Y s U H _ _ v u Q I rx ry ⟨_,_,rfl,rfl,q⟩
  .exact h'.elim
 |NotIn=>
  intro Y s U H x y v u Q I rx ry h;have h':m9 X.K true x y H Q:=h;unfold m9 at h'
  split at h'
  .rcases h' with⟨xs,hx,f1,f2,q⟩|⟨o,g,q⟩|y|z
   rotate_left 2
   .cases y
   .exact z.elim
   .exact lE Y s U H _ _ v u Q I rx ry ⟨_,xs,rfl,hx,f1,f2,q⟩
   .cases ry;exact Aq nofun I g rx λs3 I3=>⟨.bl (!o.isSome),H,I3,rfl,q⟩
  .obtain⟨i,rfl,q⟩:=h';exact lK Y s U H _ _ v u Q I rx ry ⟨_,_,rfl,rfl,q⟩
  .exact h'.elim
 |Is=>
  intro Y s U H x y v u Q I rx ry h;have h':ym false x y H Q:=h;unfold ym at h'
  split at h'
  .exact Dv Y s U H _ _ v u Q I rx ry ⟨rfl,h'⟩
  .exact h'.elim
  .exact h'.elim
  .exact h'.elim
 |IsNot=>
  intro Y s U H x y v u Q I rx ry h;have h':ym true x y H Q:=h;unfold ym at h'
  split at h'
  .exact Ax Y s U H _ _ v u Q I rx ry ⟨rfl,h'⟩
  .exact h'.elim
  .exact h'.elim
  .exact h'.elim
@[irreducible] noncomputable def tf (K:W.Frag):R2:=λx y H Q=>match x with
 | .ref p=>(∃ xs i v,y=.int i/\(aP K H p xs\/a5 K H p xs)/\fH xs i=some v/\Q v H)\/(∃ v,t5 H p y (some v)/\Q v H)\/False
 | .str z=>∃ i c,y=.int i/\z.length<=100000/\fH z.cps.toList i=some c/\Q (.str ⟨#[c]⟩) H
 |_=>False
def qq (hu:X.A.units+200<cLine):EG X (tf X.K):=by
 intro value slice Y s U H x y v u Q I rx ry h hs;unfold tf at h
 split at h
 .rcases h with⟨xs,i,w,rfl,hx,ha,q⟩|⟨w,g,q⟩|z
  .rcases hx with hx|hx
   .exact y9 value slice Y s U H _ _ v u Q I rx ry ⟨_,xs,i,w,rfl,rfl,hx,ha,q⟩ hs
   .exact CT value slice Y s U H _ _ v u Q I rx ry ⟨_,xs,i,w,rfl,rfl,hx,ha,q⟩ hs
  .cases rx;exact tail_any (pH I g) PySem.F.slot_dict_getitem.lookup (ui nofun I g ry λw' s3 I3 rw'=>⟨w,H,I3,rw',q⟩) hs
  .exact z.elim
 .obtain⟨i,c,rfl,hz,ha,q⟩:=h;exact C6 value slice Y s U H _ _ v u Q I rx ry ⟨_,i,c,rfl,rfl,f6 nofun,ha,q⟩ hs
 .exact h.elim
@[irreducible] noncomputable def tV:uP:=λo i v H Q=>match o with
 | .ref p=>(∃ xs k j,i=.int k/\H p=some (.lst xs)/\rE xs.length k=some j/\Q (upd H p (.lst (xs.set j v))))\/∃ H4,EZ H p i v H4/\Q H4
 |_=>False
def rq (hu:X.A.units+200<cLine):Ba X tV:=by
 intro Y s U H o i v ov iv u Q I ro ri rv h;unfold tV at h
 split at h
 .rcases h with⟨xs,k,j,rfl,hp,hj,q⟩|⟨H4,g,q⟩
  .exact set_list Y s U H _ _ v ov iv u Q I ro ri rv ⟨_,xs,k,j,rfl,rfl,hp,hj,q⟩
  .cases ro;exact tR nofun I g ri rv λs4 I4=>⟨H4,I4,q⟩
 .exact h.elim
def rM {v:Value}{o:Option Int}(p:IsPart v o):∃ l:Option (Int×Tok),v=partValue l:=by
 cases p with
 |none=>exact⟨none,rfl⟩
 |int i t=>exact⟨some (i,t),rfl⟩
abbrev GC:V->Option Int->Option Int->Hp->VK->Prop:=λx lo hi H Q=>∃ z,x=.str z/\z.length<=100000/\Q (.str (fv z lo hi)) H
def BJ {p:Option Int}{l:Option (Int×Tok)}(h:IsPart (partValue l) p):l.map (·.1)=p:=by
 cases l with
 |none=>cases h;rfl
 |some x=>obtain⟨i,t⟩:=x;cases h;rfl
def Dh:EO X GC:=by
 intro Y s U H x v vl vu lo hi sl Q I rx hs pl pu h;obtain⟨z,rfl,h0,q⟩:=h;obtain⟨t,rfl⟩:=rx;obtain⟨l,rfl⟩:=rM pl;obtain⟨u,rfl⟩:=rM pu;have el:=BJ pl;have eu:=BJ pu;refine⟨"str",_,PySem.F.slot_str_getitem.lookup,typeIs_str _ _ _,wpAny_getItem_str_slice (l:=l) (u:=u) (st:=none) hs rfl ?_⟩;unfold sliceMade
 split
 .rename_i hw;have e:=tN z l u (by simpa using hw);rw[el,eu]at e;exact⟨.str z,H,I,⟨_,rfl⟩,by rw[<-e]at q;exact q⟩
 .rw[xF,el,eu];exact⟨f6 (Nat.le_trans (gG z lo hi) (Nat.le_trans h0 (by decide))),⟨.str _,H,I.tok _,⟨_,rfl⟩,q⟩⟩
@[irreducible] noncomputable def sG (K:W.Frag):V->Option Int->Option Int->Hp->VK->Prop:=λx lo hi H Q=>match x with
 | .ref a=>(∃ xs,aP K H a xs/\∀ p,H p=none->Q (.ref p) (upd H p (.lst (bH xs lo hi))))\/E7 K (.ref a) lo hi H Q
 | .str z=>GC (.str z) lo hi H Q
 |_=>False
def CO:EO X (sG X.K):=by
 intro Y s U H x v vl vu lo hi sl Q I rx hs pl pu h;unfold sG at h
 split at h
 .rcases h with⟨xs,hx,q⟩|h
  .exact Ad Y s U H _ v vl vu lo hi sl Q I rx hs pl pu ⟨_,xs,rfl,hx,q⟩
  .exact DV Y s U H _ v vl vu lo hi sl Q I rx hs pl pu h
 .exact Dh Y s U H _ v vl vu lo hi sl Q I rx hs pl pu h
 .exact h.elim
end
end L2
namespace L3
open PySem L2
set_option genSizeOf false
inductive Bf where
 |len|list|tuple|int|str|min|max|abs|all|any|dict|sum
 deriving DecidableEq
inductive Lm where
 |append|extend|insert|pop|clear|reverse|count
 deriving DecidableEq
inductive Sm where
 |join|split|starts
 deriving DecidableEq
inductive Cl where
 |own (c:Nat)|ty (n:String)
mutual
inductive Ex where
 |v (i:Nat)|int (i:Int)|bl (b:Bool)|non|str (x:Str)|gl (x:Str)
 |bin (op:Operator) (a b:Ex)|neg (a:Ex)|not (a:Ex)|and (a b:Ex)|or (a b:Ex)
 |cmp (op:CmpOp) (a b:Ex)|cmp2 (o1 o2:CmpOp) (a b c:Ex)|cmp3 (o1 o2 o3:CmpOp) (a b c d:Ex)
 |ife (c:Tx) (a b:Ex)|tup (es:fw)|lst (es:fw)|ix (a i:Ex)|sl (a:Ex) (lo hi:Hh)
 |fld (a:Ex) (f:Str)|call (f:Nat) (es:fw)|meth (a:Ex) (m:Str) (es:fw)|lm (m:Lm) (a:Ex) (es:fw)|make (c:Nat) (es:fw)|bini (es:fw)|cini (c:Nat) (es:fw)
 |bf (b:Bf) (es:fw)|sm (m:Sm) (a b:Ex)|isi (a:Ex) (c:Cl)|lc (elt:Ex) (sel:List Nat) (it:Bx)|lci (elt:Ex) (c:Tx) (sel:List Nat) (it:Bx)|lct (elt:Ex) (n:Nat) (sel:List Nat) (it:Bx)|lcu (elt:Ex) (c:Tx) (n:Nat) (sel:List Nat) (it:Bx)|dnew|up (a:Ex)|dzip (a b:Ex)|isiT (a:Ex) (cs:List Nat)|vals (tp:Bool) (a:Ex)|mk0 (c:Nat)|disp (ks:List Str) (es:fw)|lix (a b:Ex)|rev (a b:Ex)|dget (a k d:Ex)|dupd (a b:Ex)
inductive Tx where
 |not (a:Tx)|and (a b:Tx)|or (a b:Tx)|cmp (op:CmpOp) (a b:Ex)|cmp2 (o1 o2:CmpOp) (a b c:Ex)|val (e:Ex)
inductive fw where
 |nil|cons (e:Ex) (es:fw)
inductive Hh where
 |no|yes (e:Ex)
inductive Bx where
 |rng1 (a:Ex)|rng2 (a b:Ex)|rng3 (a b c:Ex)|enm (a:Ex)|enf (a:Ex)|seq (a:Ex)|zip (a b:Ex)|zip3 (a b c:Ex)
end
inductive Hi where
 |nm (i:Nat)|tp (is:List Nat)|nt (i:Nat) (is:List Nat)
mutual
inductive Sx where
 |asg (i:Nat) (e:Ex)|asgT (is:List Nat) (e:Ex)|par (is:List Nat) (es:fw)|sub (o i v:Ex)|fld (o:Ex) (f:Str) (v:Ex)
 |aug (i:Nat) (op:Operator) (e:Ex)|augS (o i:Ex) (op:Operator) (e:Ex)|augF (o:Ex) (f:Str) (op:Operator) (e:Ex)
 |ret (e:Ex)|retN|pass|brk|cont|expr (e:Ex)
 |ife (c:Tx) (a b:j7)|whl (c:Tx) (b:j7)|for (t:Hi) (it:Bx) (b:j7)|rais (e:Ex)|tryx (b:j7) (hs:yl)
inductive j7 where
 |nil|cons (s:Sx) (r:j7)
inductive yl where
 |nil|cons (c:Nat) (i:Nat) (b:j7) (hs:yl)
end
structure ay where
 ps:List Str
 N:List Str
 dfl:List V
 body:j7
/-- what of the text never changes. gfn,gcl:the global names of defs and classes,by number;gbl:built-in names that are not shadowed;gbi:classes of exceptions whose __init__ is the built-in one;na:class and name that no class of it has;
  me:class,name,def;ini:class,its __init__;oc,xc:plain classes,classes of exceptions;sub,subT:isinstance -/
structure Tab where
 fns:List ay
 gfn:List (Str×Nat)
 gcl:List (Str×Nat)
 gbl:List Str
 gbi:List Str
 na:List (Nat×Str)
 me:List ((Nat×Str)×Nat)
 ini:List (Nat×Nat)
 ini0:List Nat
 inip:List Nat
 oc:List Nat
 xc:List Nat
 sub:List ((Nat×Nat)×Bool)
 subT:List ((Nat×String)×Bool)
 subB:List ((String×String)×Bool)
 subO:List ((String×Nat)×Bool)
 cin:List (Nat×Nat):=[]
structure Rt where
 K:W.Frag
 fad:Nat->Addr
 cad:Nat->Addr
 gl:Str->Option V
structure Gx where
 T:Tab
 R:Rt
 Ψ:Nat->Sp
 cm:Bool
@[irreducible] noncomputable def iB (c:Bool) (A B:Prop):Prop:=match c with
 |true=>A
 |false=>B
def cX (c:Bool)(A B:Prop):iB c A B=(if c=true then A else B):=by unfold iB;cases c<;>rfl
abbrev DP (K:W.Frag)(x:V)(H:Hp)(Q:Bool->Hp->Prop):Prop:=match x with
 | .bl k=>Q k H
 |y=>∃ k,yB K y H k/\Q k H
abbrev tyName:V->Hp->Option String
 | .non,_=>some "NoneType"
 | .bl _,_=>some "bool"
 | .int _,_=>some "int"
 | .str _,_=>some "str"
 | .ref a,H=>match H a with
  |some (.lst _)=>some "list"
  |some (.tup _)=>some "tuple"
  |some (.dK _)=>some "dict"
  |some (.ji _ (.dK _))=>some "dict"
  |_=>none
 |_,_=>none
@[irreducible] noncomputable def gP (G:Gx) (b:Bf) (vs:List V) (H:Hp) (Q:VK):Prop:=match b with
 | .len=>∃ x n,vs=[x]/\F6 G.R.K x H n/\Q (.int n) H
 | .list=>(∃ p ys,vs=[.ref p]/\(aP G.R.K H p ys\/a5 G.R.K H p ys)/\∀ l,H l=none->Q (.ref l) (upd H l (.lst ys)))\/(G.cm=true/\∃ p kvs,vs=[.ref p]/\Rd H p (.dK kvs)/\∀ l,H l=none->Q (.ref l) (upd H l (.lst (kvs.map (λkv=>kV kv.1)))))
 | .tuple=>∃ p ys,vs=[.ref p]/\((aP G.R.K H p ys/\∀ l,H l=none->Q (.ref l) (upd H l (.tup ys)))\/(a5 G.R.K H p ys/\Q (.ref p) H))
 | .int=>((∃ i,vs=[.int i]/\Q (.int i) H)\/∃ k,vs=[.bl k]/\Q (.int (if k then 1 else 0)) H)\/∃ z n,vs=[.str z]/\PySem.intText? z=some n/\z.length<=640/\Q (.int n) H
 | .str=>(∃ i,vs=[.int i]/\i.natAbs.log2<1920/\Q (.str (toString i)) H)\/∃ z,vs=[.str z]/\Q (.str z) H
 | .min=>G.cm=true/\((∃ i j,vs=[.int i,.int j]/\Q (.int (if j<i then j else i)) H)\/False)
 | .max=>False
 | .abs=>False
 | .all=>G.cm=true/\∃ p,∃ bs:List Bool,vs=[.ref p]/\aP G.R.K H p (bs.map V.bl)/\Q (.bl (bs.all id)) H
 | .any=>False
 | .dict=>False
 | .sum=>False
@[irreducible] noncomputable def yp (m:Lm) (p:Addr) (xs:List V) (vs:List V) (H:Hp) (Q:VK):Prop:=match m with
 | .append=>∃ y,vs=[y]/\xs.length<=10000/\Q .non (upd H p (.lst (xs++[y])))
 | .extend=>∃ b zs,vs=[.ref b]/\H b=some (.lst zs)/\xs.length+zs.length<=10000/\Q .non (upd H p (.lst (xs++zs)))
 | .insert=>∃ i y,vs=[.int i,y]/\0<=i/\i<=xs.length/\xs.length<=10000/\Q .non (upd H p (.lst (xs.take i.toNat++y::xs.drop i.toNat)))
 | .pop=>False
 | .clear=>False
 | .reverse=>False
 | .count=>False
abbrev dflt (G:Gx)(f n:Nat):List V:=match G.T.fns[f]? with
 |some d=>d.dfl.drop (n+d.dfl.length-d.ps.length)
 |none=>[]
abbrev fw.len:fw->Nat
 | .nil=>0
 | .cons _ es=>es.len+1
abbrev sk (G:Gx)(H:Hp)(a:Addr)(i:Nat):Prop:=(G.T.oc.contains i=true/\∃ dx fs,H a=some (.ins (G.R.cad i) dx fs))\/(G.T.xc.contains i=true/\∃ dx fs fr,H a=some (.exc (G.R.cad i) dx fs fr))
@[irreducible] noncomputable def gf (G:Gx) (c:Cl) (x:V) (H:Hp) (Q:VK):Prop:=match c with
 | .ty n=>(∃ t b,tyName x H=some t/\G.T.subB.lookup (t,n)=some b/\Q (.bl b) H)\/∃ a i b,x=.ref a/\sk G H a i/\G.T.subT.lookup (i,n)=some b/\Q (.bl b) H
 | .own j=>(∃ t b,tyName x H=some t/\G.T.subO.lookup (t,j)=some b/\Q (.bl b) H)\/∃ a i b,x=.ref a/\sk G H a i/\G.T.sub.lookup (i,j)=some b/\Q (.bl b) H
abbrev anyS (G:Gx)(i:Nat):List Nat->Option Bool
 | []=>some false
 |c::r=>match G.T.sub.lookup (i,c) with
  |some true=>some true
  |some false=>anyS G i r
  |none=>none
abbrev A6 (G:Gx)(t:String):List Nat->Option Bool
 | []=>some false
 |c::r=>match G.T.subO.lookup (t,c) with
  |some true=>some true
  |some false=>A6 G t r
  |none=>none
@[irreducible] noncomputable def nY (G:Gx) (cs:List Nat) (x:V) (H:Hp) (Q:VK):Prop:=(∃ t b,tyName x H=some t/\A6 G t cs=some b/\Q (.bl b) H)\/∃ a i b,x=.ref a/\sk G H a i/\anyS G i cs=some b/\Q (.bl b) H
@[irreducible] noncomputable def kq (G:Gx) (f:Str) (x:V) (H:Hp) (Q:VK):Prop:=∃ a i fs v,x=.ref a/\((G.T.oc.contains i=true/\∃ dx,H a=some (.ins (G.R.cad i) dx fs))\/(G.T.xc.contains i=true/\∃ dx fr,H a=some (.exc (G.R.cad i) (some dx) fs fr)))/\
 G.T.na.contains (i,f)=true/\fs.lookup f=some v/\Q v H
@[irreducible] noncomputable def yq (G:Gx) (f:Str) (x y:V) (H:Hp) (Q:Hp->Prop):Prop:=∃ a i,x=.ref a/\G.T.na.contains (i,f)=true/\
 ((∃ dx fs,G.T.oc.contains i=true/\H a=some (.ins (G.R.cad i) dx fs)/\fs.length<1000/\Q (upd H a (.ins (G.R.cad i) dx (cw f y fs))))\/
  (∃ d fs fr,G.T.xc.contains i=true/\H a=some (.exc (G.R.cad i) (some d) fs fr)/\fs.length<1000/\Q (upd H a (.exc (G.R.cad i) (some d) (cw f y fs) fr)))\/
  (∃ fr,G.T.xc.contains i=true/\H a=some (.exc (G.R.cad i) none [] fr)/\∀ d,H d=none->Q (upd (upd H d (.own a)) a (.exc (G.R.cad i) (some d) [(f,y)] fr))))
abbrev EI (op:Operator)(x y:V)(H:Hp)(Q:VK):Prop:=match op,x,y with
 | .Add,.int i,.int j=>Q (.int (i+j)) H
 | .Sub,.int i,.int j=>Q (.int (i-j)) H
 |_,_,_=>False
@[irreducible] noncomputable def xG (K:W.Frag) (x y:V) (H:Hp) (Q:VK):Prop:=match x,y with
 | .ref p,.int i=>∃ xs v,aP K H p xs/\0<=i/\xs[i.toNat]? =some v/\Q v H
 |_,_=>False
abbrev yZ (U:St):List Nat->List V->St
 |i::is,x::xs=>yZ (U.set i (some x)) is xs
 |_,_=>U
@[irreducible] noncomputable def x6 (K:W.Frag) (m:Sm) (z:Str) (y:V) (H:Hp) (Q:VK):Prop:=match m with
 | .join=>rJoin K (.str z) [y] H Q
 | .split=>qi (.str z) [y] H Q
 | .starts=>mN (.str z) [y] H Q
@[irreducible] noncomputable def A0 (xs:List V) (H:Hp) (Q:VK):Prop:=xs.length<=10000/\∀ p,H p=none->Q (.ref p) (upd H p (.lst xs))
@[irreducible] noncomputable def mG (xs:List V) (H:Hp) (Q:VK):Prop:=xs.length<=10000/\∀ p,H p=none->Q (.ref p) (upd H p (.tup xs))
@[irreducible] noncomputable def newD (H:Hp) (Q:VK):Prop:=∀ p,H p=none->Q (.ref p) (upd H p (.dK []))
@[irreducible] noncomputable def Bg (l:Addr) (H:Hp) (R:It->Hp->Prop):Prop:=(∃ xs,H l=some (.lst xs))/\R (FV l) H
@[irreducible] noncomputable def qc (K:W.Frag) (p:Addr) (H:Hp) (R:It->Hp->Prop):Prop:=((∃ xs,aP K H p xs)/\R (EE K p) H)\/((∃ xs,a5 K H p xs)/\R (ER K p) H)\/False
@[irreducible] noncomputable def t6 (C:Addr) (H:Hp) (Q:VK):Prop:=∀ x dx,H x=none->H dx=none->dx≠x->Q (.ref x) (upd (upd H dx (.own x)) x (.ins C dx []))
@[irreducible] noncomputable def Bi (p:Addr) (y:V) (H:Hp) (Q:VK):Prop:=∃ kvs more b,y=.ref b/\p≠b/\H p=some (.dK kvs)/\H b=some (.dK more)/\kvs.length+more.length<=1000/\Q .non (upd H p (.dK (bb kvs more)))
@[irreducible] noncomputable def xO (te:TE) (J:It) (σ₀:St) (H1:Hp) (Q:VK):Prop:=LC te J σ₀ H1 Q
def yj: @xO= @LC:=by
 funext te J U H Q
 unfold xO
 rfl
@[irreducible] noncomputable def BB (tc:TT) (te:TE) (J:It) (σ₀:St) (H1:Hp) (Q:VK):Prop:=LCg (gc 0) tc te J σ₀ H1 Q
def xw: @BB= @LCg (gc 0):=by
 funext tc te J U H Q
 unfold BB
 rfl
abbrev gl (is:List Nat):yI:=λvs U H Q=>vs.length=is.length/\Q (yZ U is vs) H
@[irreducible] noncomputable def LCt (K:W.Frag) (n:Nat) (te:TE) (J:It) (σ₀:St) (H1:Hp) (Q:VK):Prop:=LCg (An K n (gl (List.range n))) yes te J σ₀ H1 Q
def C7 {K:W.Frag}{n:Nat}:LCt K n=LCg (An K n (gl (List.range n))) yes:=by
 funext te J U H Q
 unfold LCt
 rfl
abbrev DL:List Str->List V->List (Key×V)
 |k::ks,x::xs=>(.inr k,x)::DL ks xs
 |_,_=>[]
@[irreducible] noncomputable def so (ks:List Str) (p:Addr) (xs:List V) (H:Hp) (Q:VK):Prop:=H p=some (.dK [])/\Q (.ref p) (upd H p (.dK (bb [] (DL ks xs))))
mutual
noncomputable def wE (G:Gx):Ex->St->Hp->VK->XK->Prop
 | .v i,U,H,Q,_=>match U[i]? with
  |some (some x)=>Q x H
  |_=>False
 | .int i,_,H,Q,_=>Q (.int i) H
 | .bl b,_,H,Q,_=>Q (.bl b) H
 | .non,_,H,Q,_=>Q .non H
 | .str x,_,H,Q,_=>Q (.str x) H
 | .gl x,_,H,Q,_=>match G.R.gl x with
  |some v=>Q v H
  |none=>False
 | .bin op a b,U,H,Q,E=>wE G a U H (λx H1=>wE G b U H1 (λy H2=>CG G.R.K op x y H2 Q) E) E
 | .neg a,U,H,Q,E=>wE G a U H (λx H1=>match x with| .int i=>Q (.int (-i)) H1|_=>False) E
 | .not a,U,H,Q,E=>wE G a U H (λx H1=>match x with| .bl c=>Q (.bl (!c)) H1|_=>False) E
 | .and a b,U,H,Q,E=>wE G a U H (λx H1=>match x with| .bl c=>iB c (wE G b U H1 Q E) (Q (.bl false) H1)|_=>False) E
 | .or a b,U,H,Q,E=>wE G a U H (λx H1=>match x with| .bl c=>iB c (Q (.bl true) H1) (wE G b U H1 Q E)|_=>False) E
 | .cmp op a b,U,H,Q,E=>wE G a U H (λx H1=>wE G b U H1 (λy H2=>o5 G.R.K op x y H2 Q) E) E
 | .cmp2 o1 o2 a b c,U,H,Q,E=>wE G a U H (λx H1=>wE G b U H1 (λy H2=>o5 G.R.K o1 x y H2 λz H3=>match z with| .bl k=>iB k (wE G c U H3 (λw H4=>o5 G.R.K o2 y w H4 Q) E) (Q (.bl false) H3)|_=>False) E) E
 | .cmp3 o1 o2 o3 a b c d,U,H,Q,E=>False
 | .ife c a b,U,H,Q,E=>wT G c U H (λk H1=>iB k (wE G a U H1 Q E) (wE G b U H1 Q E)) E
 | .tup es,U,H,Q,E=>wEs G es U H (λxs H1=>mG xs H1 Q) E
 | .lst es,U,H,Q,E=>wEs G es U H (λxs H1=>A0 xs H1 Q) E
 | .ix a i,U,H,Q,E=>wE G a U H (λx H1=>wE G i U H1 (λy H2=>tf G.R.K x y H2 Q) E) E
 | .sl a lo hi,U,H,Q,E=>wE G a U H (λx H1=>wO G lo U H1 (λl H2=>wO G hi U H2 (λu H3=>sG G.R.K x l u H3 Q) E) E) E
 | .fld a f,U,H,Q,E=>wE G a U H (λx H1=>kq G f x H1 Q) E
 | .call f es,U,H,Q,E=>G.cm=true/\wEs G es U H (λvs H1=>G.Ψ f (vs++dflt G f es.len) H1 Q E) E
 | .meth a m es,U,H,Q,E=>G.cm=true/\wE G a U H (λx H1=>∃ p i dx fs f,x=.ref p/\H1 p=some (.ins (G.R.cad i) dx fs)/\fs.lookup m=none/\G.T.me.lookup (i,m)=some f/\
   wEs G es U H1 (λvs H2=>G.Ψ f (x::(vs++dflt G f (es.len+1))) H2 Q E) E) E
 | .lm m a es,U,H,Q,E=>wE G a U H (λx H1=>∃ p xs0,x=.ref p/\H1 p=some (.lst xs0)/\wEs G es U H1 (λvs H2=>∃ xs,H2 p=some (.lst xs)/\yp m p xs vs H2 Q) E) E
 | .make c es,U,H,Q,E=>G.cm=true/\match G.T.ini.lookup c with
  |none=>G.T.ini0.contains c=true/\wEs G es U H (λvs H1=>vs.length=1/\∀ x,H1 x=none->Q (.ref x) (upd H1 x (.exc (G.R.cad c) none [] true))) E
  |some f=>if G.T.xc.contains c=true then wEs G es U H (λvs H1=>vs.length<=1000/\∀ x,H1 x=none->G.Ψ f (.ref x::(vs++dflt G f (es.len+1))) (upd H1 x (.exc (G.R.cad c) none [] true)) (λv H2=>v=.non/\Q (.ref x) H2) E) E
   else wEs G es U H (λvs H1=>∀ x dx,H1 x=none->H1 dx=none->dx≠x->G.Ψ f (.ref x::(vs++dflt G f (es.len+1))) (upd (upd H1 dx (.own x)) x (.ins (G.R.cad c) dx [])) (λv H2=>v=.non/\Q (.ref x) H2) E) E
 | .bini es,U,H,Q,E=>wEs G es U H (λvs H1=>∃ a i dx fs fr v,vs=[.ref a,v]/\H1 a=some (.exc (G.R.cad i) dx fs fr)/\G.T.xc.contains i=true/\Q .non H1) E
 | .cini c es,U,H,Q,E=>False
 | .bf b es,U,H,Q,E=>wEs G es U H (λvs H1=>gP G b vs H1 Q) E
 | .isi a c,U,H,Q,E=>wE G a U H (λx H1=>gf G c x H1 Q) E
 | .lc elt sel it,U,H,Q,E=>G.cm=true/\wI G it U H (λJ H1=>xO (λσ' H' Q'=>wE G elt σ' H' Q' E) J (none::fU U sel) H1 Q) E
 | .lci elt c sel it,U,H,Q,E=>G.cm=true/\wI G it U H (λJ H1=>BB (λσ' H' Q'=>wT G c σ' H' Q' E) (λσ' H' Q'=>wE G elt σ' H' Q' E) J (none::fU U sel) H1 Q) E
 | .lct elt n sel it,U,H,Q,E=>False
 | .lcu elt c n sel it,U,H,Q,E=>False
 | .dnew,_,H,Q,_=>newD H Q
 | .sm m a b,U,H,Q,E=>wE G a U H (λx H1=>∃ z,x=.str z/\wE G b U H1 (λy H2=>x6 G.R.K m z y H2 Q) E) E
 | .up a,U,H,Q,E=>False
 | .isiT a cs,U,H,Q,E=>wE G a U H (λx H1=>∀ p,H1 p=none->nY G cs x (upd H1 p (.tup (cs.map λc=>.ref (G.R.cad c)))) Q) E
 | .mk0 c,_,H,Q,_=>t6 (G.R.cad c) H Q
 | .disp ks es,U,H,Q,E=>∀ p,H p=none->wEs G es U (upd H p (.dK [])) (λxs H2=>so ks p xs H2 Q) E
 | .dget a k d,U,H,Q,E=>False
 | .dupd a b,U,H,Q,E=>wE G a U H (λx H1=>∃ p kvs0,x=.ref p/\H1 p=some (.dK kvs0)/\wE G b U H1 (λy H2=>Bi p y H2 Q) E) E
 | .rev a b,U,H,Q,E=>False
 | .lix a b,U,H,Q,E=>False
 | .vals tp a,U,H,Q,E=>False
 | .dzip a b,U,H,Q,E=>False
noncomputable def wT (G:Gx):Tx->St->Hp->(Bool->Hp->Prop)->XK->Prop
 | .not a,U,H,Q,E=>wT G a U H (λc H1=>Q (!c) H1) E
 | .and a b,U,H,Q,E=>wT G a U H (λc H1=>iB c (wT G b U H1 Q E) (Q false H1)) E
 | .or a b,U,H,Q,E=>wT G a U H (λc H1=>iB c (Q true H1) (wT G b U H1 Q E)) E
 | .cmp op a b,U,H,Q,E=>wE G a U H (λx H1=>wE G b U H1 (λy H2=>o5 G.R.K op x y H2 λz H3=>match z with| .bl k=>Q k H3|_=>False) E) E
 | .cmp2 o1 o2 a b c,U,H,Q,E=>wE G a U H (λx H1=>wE G b U H1 (λy H2=>o5 G.R.K o1 x y H2 λz H3=>match z with| .bl k=>iB k (wE G c U H3 (λw H4=>o5 G.R.K o2 y w H4 λz H5=>match z with| .bl k=>Q k H5|_=>False) E) (Q false H3)|_=>False) E) E
 | .val e,U,H,Q,E=>wE G e U H (λx H1=>DP G.R.K x H1 Q) E
noncomputable def wEs (G:Gx):fw->St->Hp->(List V->Hp->Prop)->XK->Prop
 | .nil,_,H,Q,_=>Q [] H
 | .cons e es,U,H,Q,E=>wE G e U H (λx H1=>wEs G es U H1 (λxs H2=>Q (x::xs) H2) E) E
noncomputable def wO (G:Gx):Hh->St->Hp->(Option Int->Hp->Prop)->XK->Prop
 | .no,_,H,Q,_=>Q none H
 | .yes e,U,H,Q,E=>wE G e U H (λx H1=>match x with| .int i=>Q (some i) H1|_=>False) E
noncomputable def wI (G:Gx):Bx->St->Hp->(It->Hp->Prop)->XK->Prop
 | .rng1 a,U,H,R,E=>wE G a U H (λx H1=>match x with| .int j=>-(2 ^ 62)<=j/\j<2 ^ 62/\R (EN 0 j.toNat) H1|_=>False) E
 | .rng2 a b,U,H,R,E=>False
 | .rng3 a b c,U,H,R,E=>False
 | .enm a,U,H,R,E=>wE G a U H (λx H1=>match x with| .ref l=>Bg l H1 R|_=>False) E
 | .enf a,U,H,R,E=>False
 | .seq a,U,H,R,E=>wE G a U H (λx H1=>match x with| .ref p=>qc G.R.K p H1 R| .str z=>R (B2 z) H1|_=>False) E
 | .zip a b,U,H,R,E=>False
 | .zip3 a b c,U,H,R,E=>False
end
abbrev IF (D:Ends)(f:St->Hp->Prop):Ends:={ D with nx:=f }
abbrev xf (D:Ends)(N:St->Hp->Prop):Ends:={ D with nx:=N,ct:=N,bk:=D.nx }
abbrev JJ (D:Ends)(i:Nat):Ends:={ nx:=λσ' H'=>D.nx (σ'.set i none) H',rt:=D.rt,bk:=λσ' H'=>D.bk (σ'.set i none) H',ct:=λσ' H'=>D.ct (σ'.set i none) H' }
abbrev wG (U:St)(t:Hi)(K:W.Frag)(x:V)(H:Hp)(Q:St->Prop):Prop:=match t with
 | .nm i=>Q (U.set i (some x))
 | .tp is=>∃ a xs,x=.ref a/\(a5 K H a xs\/aP K H a xs)/\xs.length=is.length/\Q (yZ U is xs)
 | .nt i is=>∃ a y b ys,x=.ref a/\a5 K H a [y,.ref b]/\a5 K H b ys/\ys.length=is.length/\Q (yZ (U.set i (some y)) is ys)
@[irreducible] noncomputable def j4 (J:It) (D:Ends) (F:(St->Hp->Prop)->V->St->Hp->Prop) (U:St) (H1:Hp):Prop:=∃ W:Nat->Nat->St->Hp->Prop,(∃ m,W 0 m U H1)/\∀ i m U H,W i m U H->
 (J.stop i H/\D.nx U H)\/(J.go i H/\∃ N:St->Hp->Prop,(∀ σ' H',N σ' H'->∃ m',m'<m/\W (i+1) m' σ' H')/\∀ x H',J.yld i H x H'->F N x U H')
mutual
noncomputable def wS:Sx->Gx->Ends->(St->XK)->St->Hp->Prop
 | .asg i e,G,D,E,U,H=>wE G e U H (λx H1=>D.nx (U.set i (some x)) H1) (E U)
 | .asgT is e,G,D,E,U,H=>G.cm=true/\wE G e U H (λx H1=>wG U (.tp is) G.R.K x H1 λσ1=>D.nx σ1 H1) (E U)
 | .par is es,G,D,E,U,H=>False
 | .sub o i v,G,D,E,U,H=>wE G v U H (λy H1=>wE G o U H1 (λov H2=>wE G i U H2 (λiv H3=>tV ov iv y H3 (λH4=>D.nx U H4)) (E U)) (E U)) (E U)
 | .fld o f v,G,D,E,U,H=>wE G v U H (λy H1=>wE G o U H1 (λx H2=>yq G f x y H2 (λH3=>D.nx U H3)) (E U)) (E U)
 | .aug i op e,G,D,E,U,H=>(match U[i]? with|some (some x)=>wE G e U H (λy H1=>EI op x y H1 λz H2=>D.nx (U.set i (some z)) H2) (E U)|_=>False)
 | .augS o i op e,G,D,E,U,H=>wE G o U H (λov H1=>wE G i U H1 (λiv H2=>xG G.R.K ov iv H2 (λx H3=>wE G e U H3 (λy H4=>EI op x y H4 (λz H5=>tV ov iv z H5 (λH6=>D.nx U H6))) (E U))) (E U)) (E U)
 | .augF o f op e,G,D,E,U,H=>wE G o U H (λx H1=>kq G f x H1 (λu H2=>wE G e U H2 (λy H3=>EI op u y H3 λz H4=>yq G f x z H4 (λH5=>D.nx U H5)) (E U))) (E U)
 | .ret e,G,D,E,U,H=>wE G e U H D.rt (E U)
 | .retN,_,D,_,_,H=>False
 | .pass,_,D,_,U,H=>False
 | .brk,_,D,_,U,H=>False
 | .cont,_,D,_,U,H=>False
 | .expr e,G,D,E,U,H=>wE G e U H (λ_ H1=>D.nx U H1) (E U)
 | .ife c a b,G,D,E,U,H=>wT G c U H (λk H1=>iB k (wB a G D E U H1) (wB b G D E U H1)) (E U)
 | .whl c b,G,D,E,U,H=>∃ W:Nat->St->Hp->Prop,(∃ m,W m U H)/\∀ m U H,W m U H->wT G c U H (λk H1=>iB k (∃ N:St->Hp->Prop,(∀ σ' H',N σ' H'->∃ m',m'<m/\W m' σ' H')/\wB b G (xf D N) E U H1) (D.nx U H1)) (E U)
 | .for t it b,G,D,E,U,H=>G.cm=true/\wI G it U H (λJ H1=>j4 J D (λN x U H'=>wG U t G.R.K x H' λσ2=>wB b G (xf D N) E σ2 H') U H1) (E U)
 | .rais e,G,_,E,U,H=>G.cm=true/\wE G e U H (λv H1=>∃ a i dx fs,v=.ref a/\H1 a=some (.exc (G.R.cad i) dx fs true)/\G.T.xc.contains i=true/\E U a (upd H1 a (.exc (G.R.cad i) dx fs false))) (E U)
 | .tryx b hs,G,D,_,U,H=>G.cm=true/\wB b G D (λσ' e H'=>wH hs G D σ' e H') U H
noncomputable def wB:j7->Gx->Ends->(St->XK)->St->Hp->Prop
 | .nil,_,D,_,U,H=>D.nx U H
 | .cons s r,G,D,E,U,H=>wS s G (IF D λσ1 H1=>wB r G D E σ1 H1) E U H
noncomputable def wH:yl->Gx->Ends->St->Addr->Hp->Prop
 | .nil,_,_,_,_,_=>False
 | .cons c i b hs,G,D,U,e,H=>∃ j dx fs k,H e=some (.exc (G.R.cad j) dx fs false)/\G.T.xc.contains j=true/\G.T.sub.lookup (j,c)=some k/\
   iB k (wB b { G with cm:=false } (JJ D i) (λ_ _ _=>False) (U.set i (some (.ref e))) H)
    (wH hs G D U e H)
end
end L3
namespace L3
open PySem PySem.Spec L2 PyProof.Rows
structure Sn where
 T:Tab
 sc:Scope
 N:List Str
abbrev Sn.pK (S:Sn)(x:Str):Bool:=decide (S.sc.names.lookup x=some .globalImplicit)&& !(x ==("__debug__":Str))
abbrev Sn.DF (S:Sn)(x:Str):Bool:=(decide (S.sc.names.lookup x=some .local)||decide (S.sc.names.lookup x=some .cell)||decide (S.sc.names.lookup x=some .free))&& !(x ==("__debug__":Str))&& !(x ==("__classdict__":Str))
abbrev Sn.loc (S:Sn)(i:Nat)(x:Str):Bool:=decide (S.N[i]? =some x)&&(decide (S.sc.names.lookup x=some .local)||decide (S.sc.names.lookup x=some .cell))
abbrev qR:Expr->Bool
 | .ListComp .. | .SetComp .. | .DictComp ..=>false
 |_=>true
abbrev cF:Expr->Bool
 | .Set ..=>false
 |_=>true
abbrev eo:Expr->Bool
 | .Slice ..=>false
 |_=>true
abbrev c9:Expr->Bool
 | .Call (.Name _ _) [] [] _=>false
 |_=>true
abbrev plainT:Expr->Bool
 | .UnaryOp .Not _ _| .BoolOp .. | .IfExp .. | .Compare ..=>false
 |_=>true
abbrev xi:Bf->String
 | .len=>"len"| .list=>"list"| .tuple=>"tuple"| .int=>"int"| .str=>"str"| .min=>"min"| .max=>"max"| .abs=>"abs"| .all=>"all"| .any=>"any"| .dict=>"dict"| .sum=>"sum"
abbrev wW:Lm->String
 | .append=>"append"| .extend=>"extend"| .insert=>"insert"| .pop=>"pop"| .clear=>"clear"| .reverse=>"reverse"| .count=>"count"
abbrev xA:Sm->String
 | .join=>"join"| .split=>"split"| .starts=>"startswith"
abbrev jd:List String:=["int","bool","str","list","tuple","dict","ValueError"]
abbrev zr (S:Sn):Cl->Expr->Bool
 | .own c,.Name x _=>S.pK x&&decide (S.T.gcl.lookup x=some c)
 | .ty n,.Name x _=>S.pK x&&decide (x=(n:Str))&&S.T.gbl.contains x&&jd.contains n
 |_,_=>false
abbrev se (S:Sn):List Nat->List Expr->Bool
 | [],[]=>true
 |c::cs,.Name x _::es=>S.pK x&&decide (S.T.gcl.lookup x=some c)&&se S cs es
 |_,_=>false
abbrev du (outer inner:Scope):Scope:=
 { inner with names:=inner.names.map λ(n,k)=>if(k ==.free&&outer.kind ==.function&&outer.names.lookup n ==some .cell) then(n,.cell) else(n,k) }
abbrev fk (S:Sn)(scope:Scope)(xs:List Str)(sel:List Nat):Bool:=
 decide (scope.kind=.function)&&decide (S.sc.kind=.function)&&scope.names.all (λy=>y.2 != .cell&&(y.2 != .local||decide (scope.names.lookup y.1=some .local))&&(y.2 != .free||(decide (S.sc.names.lookup y.1=some .cell))))&&xs.all (λx=>decide (scope.names.lookup x=some .local))&&
 sel.all (λi=>match S.N[i]? with|some y=>decide (S.sc.names.lookup y=some .cell)&&decide ((du S.sc scope).names.lookup y=some .cell)|none=>false)&&decide ((xs++sel.filterMap λi=>S.N[i]?).Nodup)
abbrev E9:List Expr->List Str
 | .Name x _::r=>x::E9 r
 |_=>[]
abbrev xg (S:Sn):List Nat->List Expr->Bool
 | [],[]=>true
 |i::is,.Name x _::r=>decide (S.N[i]? =some x)&&decide (S.sc.names.lookup x=some .local)&&xg S is r
 |_,_=>false
abbrev lX:List Str->List (Option Expr)->Bool
 | [],[]=>true
 |k::ks,some (.Constant (.str x) _ _)::r=>decide (k=x)&&lX ks r
 |_,_=>false
mutual
noncomputable def mE (S:Sn):Ex->Expr->Bool
 | .v i,e=>match e with| .Name x _=>decide (S.N[i]? =some x)&&S.DF x|_=>false
 | .int i,e=>match e with| .Constant y1 _ _=>(match y1 with| .int j=>decide (i=j)|_=>false)|_=>false
 | .bl i,e=>match e with| .Constant y1 _ _=>(match y1 with| .bool j=>decide (i=j)|_=>false)|_=>false
 | .non,e=>match e with| .Constant y1 _ _=>(match y1 with| .none=>true|_=>false)|_=>false
 | .str i,e=>match e with| .Constant y1 _ _=>(match y1 with| .str j=>decide (i=j)|_=>false)|_=>false
 | .gl x,e=>match e with| .Name y _=>decide (x=y)&&S.pK y|_=>false
 | .bin op a b,e=>match e with| .BinOp a' op' b' _=>decide (op=op')&&mE S a a'&&mE S b b'|_=>false
 | .neg a,e=>match e with| .UnaryOp y1 a' _=>(match y1 with| .USub=>mE S a a'|_=>false)|_=>false
 | .not a,e=>match e with| .UnaryOp y1 a' _=>(match y1 with| .Not=>mE S a a'|_=>false)|_=>false
 | .and a b,e=>match e with| .BoolOp y1 y2 p=>(match y1 with| .And=>(match y2 with|a'::b'::r=>mE S a a'&&mE S b (match r with| []=>b'|_=>.BoolOp .And (b'::r) p)|_=>false)|_=>false)|_=>false
 | .or a b,e=>match e with| .BoolOp y1 y2 p=>(match y1 with| .Or=>(match y2 with|a'::b'::r=>mE S a a'&&mE S b (match r with| []=>b'|_=>.BoolOp .Or (b'::r) p)|_=>false)|_=>false)|_=>false
 | .cmp op a b,e=>match e with| .Compare a' y1 y2 _=>(match y1 with| [op']=>(match y2 with| [b']=>decide (op=op')&&mE S a a'&&mE S b b'&&cF b'|_=>false)|_=>false)|_=>false
 | .cmp2 o1 o2 a b c,e=>match e with| .Compare a' y1 y2 _=>(match y1 with| [p1,p2]=>(match y2 with| [b',c']=>decide (o1=p1)&&decide (o2=p2)&&mE S a a'&&mE S b b'&&mE S c c'&&cF c'|_=>false)|_=>false)|_=>false
 | .cmp3 o1 o2 o3 a b c d,_=>false
 | .ife c a b,e=>match e with| .IfExp c' a' b' _=>mT S c c'&&mE S a a'&&mE S b b'|_=>false
 | .tup es,e=>match e with| .Tuple es' _ _=>i6 S es es'|_=>false
 | .lst es,e=>match e with| .List es' _=>i6 S es es'|_=>false
 | .ix a i,e=>match e with| .Subscript a' i' _=>mE S a a'&&mE S i i'&&eo i'|_=>false
 | .sl a lo hi,e=>match e with| .Subscript a' y1 _=>(match y1 with| .Slice lo' hi' y2 _=>(match y2 with|none=>mE S a a'&&mO S lo lo'&&mO S hi hi'|_=>false)|_=>false)|_=>false
 | .fld a f,e=>match e with| .Attribute a' f' _=>mE S a a'&&decide (f=f')&&c9 a'|_=>false
 | .call f es,e=>match e with| .Call y1 es' y2 _=>(match y1 with| .Name x _=>(match y2 with| []=>S.pK x&&decide (S.T.gfn.lookup x=some f)&&i6 S es es'|_=>false)|_=>false)|_=>false
 | .meth a m es,e=>match e with| .Call y1 es' y2 q=>(match y1 with| .Attribute a' m' p=>(match y2 with| []=>mE S a a'&&decide (m=m')&&i6 S es es'&&c9 a'&&(p.endLine ==q.line)&&decide (es.len<20)|_=>false)|_=>false)|_=>false
 | .dget a k d,_=>false
 | .dupd a b,e=>match e with| .Call y1 es' y2 q=>(match y1 with| .Attribute a' m' p=>(match y2 with| []=>(match es' with| [b']=>mE S a a'&&decide (m'=("update":Str))&&mE S b b'&&notStar b'&&c9 a'&&(p.endLine ==q.line)|_=>false)|_=>false)|_=>false)|_=>false
 | .rev a b,_=>false
 | .lix a b,_=>false
 | .lm m a es,e=>match e with| .Call y1 es' y2 q=>(match y1 with| .Attribute a' m' p=>(match y2 with| []=>mE S a a'&&decide (m'=(wW m:Str))&&i6 S es es'&&c9 a'&&(p.endLine ==q.line)&&decide (es.len<20)|_=>false)|_=>false)|_=>false
 | .make c es,e=>match e with| .Call y1 es' y2 _=>(match y1 with| .Name x _=>(match y2 with| []=>S.pK x&&decide (S.T.gcl.lookup x=some c)&&i6 S es es'|_=>false)|_=>false)|_=>false
 | .bini es,e=>match e with| .Call y1 es' y2 q=>(match y1 with| .Attribute y3 m p=>(match y3 with| .Name x _=>(match y2 with| []=>S.pK x&&decide (m=("__init__":Str))&&S.T.gbi.contains x&&i6 S es es'&&decide (es.len=2)&&(p.endLine ==q.line)|_=>false)|_=>false)|_=>false)|_=>false
 | .cini c es,_=>false
 | .bf b es,e=>match e with| .Call y1 es' y2 _=>(match y1 with| .Name x _=>(match y2 with| []=>S.pK x&&decide (x=(xi b:Str))&&S.T.gbl.contains x&&i6 S es es'&&decide (0<es.len)|_=>false)|_=>false)|_=>false
 | .isi a c,e=>match e with| .Call y1 y2 y3 _=>(match y1 with| .Name x _=>(match y3 with| []=>(match y2 with| [a',c']=>S.pK x&&decide (x=("isinstance":Str))&&S.T.gbl.contains x&&mE S a a'&&zr S c c'|_=>false)|_=>false)|_=>false)|_=>false
 | .lc elt sel it,e=>match e with| .ListComp elt' y1 scope _=>(match y1 with| [y2]=>(match y2 with|⟨y3,iter,y4,y5⟩=>(match y3 with| .Name x px=>(match y4 with| []=>(match y5 with|0=>fk S scope [x] sel&&mI S it (.Name x px) iter&&mE { S with sc:=du S.sc scope,N:=x::sel.filterMap λi=>S.N[i]? } elt elt'&&cF iter|_=>false)|_=>false)|_=>false))|_=>false)|_=>false
 | .lci elt c sel it,e=>match e with| .ListComp elt' y1 scope _=>(match y1 with| [y2]=>(match y2 with|⟨y3,iter,y4,y5⟩=>(match y3 with| .Name x px=>(match y4 with| [c']=>(match y5 with|0=>fk S scope [x] sel&&mI S it (.Name x px) iter&&mE { S with sc:=du S.sc scope,N:=x::sel.filterMap λi=>S.N[i]? } elt elt'&&mT { S with sc:=du S.sc scope,N:=x::sel.filterMap λi=>S.N[i]? } c c'&&cF iter|_=>false)|_=>false)|_=>false))|_=>false)|_=>false
 | .lct elt n sel it,_=>false
 | .lcu elt c n sel it,_=>false
 | .dnew,e=>match e with| .Dict y1 y2 _=>(match y1 with| []=>(match y2 with| []=>true|_=>false)|_=>false)|_=>false
 | .sm m a b,e=>match e with| .Call y1 es' y2 q=>(match y1 with| .Attribute a' m' p=>(match y2 with| []=>(match es' with| [b']=>mE S a a'&&decide (m'=(xA m:Str))&&mE S b b'&&notStar b'&&c9 a'&&(p.endLine ==q.line)|_=>false)|_=>false)|_=>false)|_=>false
 | .up a,_=>false
 | .isiT a cs,e=>match e with| .Call y1 y2 y3 _=>(match y1 with| .Name x _=>(match y3 with| []=>(match y2 with| [a',y4]=>(match y4 with| .Tuple es' _ _=>S.pK x&&decide (x=("isinstance":Str))&&S.T.gbl.contains x&&mE S a a'&&se S cs es'&&decide (cs.length<=100)|_=>false)|_=>false)|_=>false)|_=>false)|_=>false
 | .mk0 c,e=>match e with| .Call y1 y2 y3 _=>(match y1 with| .Name x _=>(match y2 with| []=>(match y3 with| []=>S.pK x&&decide (S.T.gcl.lookup x=some c)&&S.T.inip.contains c|_=>false)|_=>false)|_=>false)|_=>false
 | .disp ks es,e=>match e with| .Dict keys vals _=>lX ks keys&&i6 S es vals&&decide (es.len=ks.length)&&decide (0<ks.length)&&decide (ks.length<=15)|_=>false
 | .vals tp a,_=>false
 | .dzip a b,_=>false
noncomputable def mT (S:Sn):Tx->Expr->Bool
 | .not a,e=>match e with| .UnaryOp y1 a' _=>(match y1 with| .Not=>mT S a a'|_=>false)|_=>false
 | .and a b,e=>match e with| .BoolOp y1 y2 p=>(match y1 with| .And=>(match y2 with|a'::b'::r=>mT S a a'&&mT S b (match r with| []=>b'|_=>.BoolOp .And (b'::r) p)|_=>false)|_=>false)|_=>false
 | .or a b,e=>match e with| .BoolOp y1 y2 p=>(match y1 with| .Or=>(match y2 with|a'::b'::r=>mT S a a'&&mT S b (match r with| []=>b'|_=>.BoolOp .Or (b'::r) p)|_=>false)|_=>false)|_=>false
 | .cmp op a b,e=>match e with| .Compare a' y1 y2 _=>(match y1 with| [op']=>(match y2 with| [b']=>decide (op=op')&&mE S a a'&&mE S b b'&&cF b'|_=>false)|_=>false)|_=>false
 | .cmp2 o1 o2 a b c,e=>match e with| .Compare a' y1 y2 _=>(match y1 with| [p1,p2]=>(match y2 with| [b',c']=>decide (o1=p1)&&decide (o2=p2)&&mE S a a'&&mE S b b'&&mE S c c'&&cF c'|_=>false)|_=>false)|_=>false
 | .val e,e'=>mE S e e'&&plainT e'
noncomputable def i6 (S:Sn):fw->List Expr->Bool
 | .nil,es=>es.isEmpty
 | .cons e es,l=>match l with|e'::es'=>mE S e e'&&notStar e'&&i6 S es es'| []=>false
noncomputable def mO (S:Sn):Hh->Option Expr->Bool
 | .no,o=>o.isNone
 | .yes e,o=>match o with|some e'=>mE S e e'|none=>false
noncomputable def mI (S:Sn):Bx->Expr->Expr->Bool
 | .rng1 a,_,e=>match e with| .Call y1 y2 y3 _=>(match y1 with| .Name x _=>(match y3 with| []=>(match y2 with| [a']=>S.pK x&&decide (x=("range":Str))&&S.T.gbl.contains x&&mE S a a'&&notStar a'|_=>false)|_=>false)|_=>false)|_=>false
 | .rng2 a b,_,e=>false
 | .rng3 a b c,_,e=>false
 | .enm a,t,e=>match e with| .Call y1 y2 y3 _=>(match y1 with| .Name x _=>(match y3 with| []=>(match y2 with| [a']=>S.pK x&&decide (x=("enumerate":Str))&&S.T.gbl.contains x&&mE S a a'&&notStar a'&&(match t with| .Tuple ..=>true|_=>false)|_=>false)|_=>false)|_=>false)|_=>false
 | .enf a,t,e=>false
 | .seq a,_,e=>mE S a e
 | .zip a b,t,e=>false
 | .zip3 a b c,t,e=>false
end
end L3
namespace L3
open PySem PySem.Spec L2
variable {e:Expr}
def plainT_ok (h:plainT e=true)(env:Env)(whole:Sem Value):isTrue e env whole=(do let v <-whole;standAt e.pos;holding [v] (truthy v)):=by
 cases e<;>first|rfl|(cases h)|skip
 case UnaryOp op a p=>cases op<;>first|rfl|cases h
def bt (h:cF e=true)(env:Env)(x:Value):foldedSetIterable e env x=pure x:=by
 cases e<;>first|rfl|cases h
def dJ (h:cF e=true)(op:CmpOp):behindInMarks op e=false:=by
 cases e<;>first|rfl|cases h
def fO (h:qR e=true)(t:Option Expr)(n:Nat)(env:Env):swapsWith e t n env=pure false:=by
 cases e<;>first|rfl|cases h
variable {o:Expr}
def aZ (h:c9 o=true)(a:Str)(env:Env)(whole:Sem Value):attributeBase o a env whole=whole:=by
 cases o with
 |Call f as ks p=>
  cases f<;>first|rfl|skip
  case Name x q=>
   cases as with
   |nil=>cases ks with
    |nil=>cases h
    |cons k ks=>rfl
   |cons b bs=>rfl
 |_=>rfl
variable {b:Expr}
def qE (h:eo b=true):rA b:=by
 intro o i;cases b<;>first|rfl|cases h
variable {X:Cx}
def PE.cn {t:TE}(h:PE X e t):PE X e (λU H R=>∃ Q,t U H Q/\∀ x H1,Q x H1->R x H1):=λY s U H R I ⟨Q,q,i⟩=>
 aC (h Y s U H Q I q) λ_ _ ⟨v,H',J,r,z⟩=>⟨v,H',J,r,i _ _ z⟩
variable {t:TT}
def PT.cn (h:PT X e t):PT X e (λU H R=>∃ Q,t U H Q/\∀ x H1,Q x H1->R x H1):=λY s U H R I ⟨Q,q,i⟩=>
 aC (h Y s U H Q I q) λ_ _ ⟨H',J,z⟩=>⟨H',J,i _ _ z⟩
def PA.cn {e:List Expr}{t:TA}(h:PA X e t):PA X e (λU H R=>∃ Q,t U H Q/\∀ x H1,Q x H1->R x H1):=λpos Y s U H R I ⟨Q,q,i⟩=>
 aC (h pos Y s U H Q I q) λ_ _ ⟨v,H',J,r,z⟩=>⟨v,H',J,r,i _ _ z⟩
def PE.imp {t t':TE}(h:PE X e t)(hi:∀ U H Q,t' U H Q->t U H Q):PE X e t':=λY s U H Q I q=>h Y s U H Q I (hi _ _ _ q)
def PT.imp {t':TT}(h:PT X e t)(hi:∀ U H Q,t' U H Q->t U H Q):PT X e t':=λY s U H Q I q=>h Y s U H Q I (hi _ _ _ q)
def PS.imp {e:Stmt}{t t':TS}(h:PS X e t)(hi:∀ D U H,t' D U H->t D U H):PS X e t':=λY s U H D I q=>h Y s U H D I (hi _ _ _ q)
structure vH (P:Program) (w:World) (K:W.Frag) (mg:JW) (base:Heap) (k:Nat) (f:Addr) (d:ay) (sp:Sp):Prop where
 fact:∃ fd,cT P w K mg base (xb P w) k f fd d.ps sp/\∀ j,∃ ds,Binds K fd d.ps ds/\Vals (d.dfl.drop j) ds
 own:∀ fd oc od osl,K.lookup f=some ⟨oc,od,.func fd,osl⟩->cT P w K mg base (xb P w) k f fd d.ps sp
structure zx (K:W.Frag) (mg:JW) (T:Tab) (R:Rt):Prop where
 gfn:∀ x f,T.gfn.lookup x=some f->mg x=some (.ref (R.fad f))/\W.keepIn K (.ref (R.fad f))=true/\∃ d,T.fns[f]? =some d
 gcl:∀ x c,T.gcl.lookup x=some c->mg x=some (.ref (R.cad c))
 gbl:∀ x,T.gbl.contains x=true->mg x=none/\x≠"__name__"
 gbi:∀ x,T.gbi.contains x=true->∃ B,mg x=some (.ref B)/\Jg K B
 gl:∀ x v,R.gl x=some v->∃ u,mg x=some u/\RelV v u
 na:∀ i f,T.na.contains (i,f)=true->dD K (R.cad i) f
 me:∀ i m f,T.me.lookup (i,m)=some f->Ar K (R.cad i)/\Meth K (R.cad i) m (R.fad f)/\∃ d,T.fns[f]? =some d
 ini0:∀ c,T.ini0.contains c=true->De K (R.cad c)
 inip:∀ c,T.inip.contains c=true->Jf K (R.cad c)
 ini:∀ c f,T.ini.lookup c=some f->(∃ d,T.fns[f]? =some d)/\if T.xc.contains c=true then Hl K (R.cad c) (R.fad f) else Mk K (R.cad c) (R.fad f)
 oc:∀ c,T.oc.contains c=true->Ar K (R.cad c)/\Ig K (R.cad c)
 xc:∀ c,T.xc.contains c=true->bS K (R.cad c)/\vJ K (R.cad c)
 sub:∀ i j b,T.sub.lookup (i,j)=some b->W.kitOne K (.ref (R.cad i)) (.ref (R.cad j))=some b/\(T.xc.contains i=true->W.mroIn K (R.cad i) (.ref (R.cad j))=some b/\bS K (R.cad j))
 subT:∀ i n b,T.subT.lookup (i,n)=some b->W.kitOne K (.ref (R.cad i)) (.type n)=some b
 subB:∀ t n b,T.subB.lookup (t,n)=some b->W.kitOne K (.type t) (.type n)=some b
 subO:∀ t j b,T.subO.lookup (t,j)=some b->W.kitOne K (.type t) (.ref (R.cad j))=some b
 cin:∀ c f,T.cin.lookup c=some f->Jq K (R.cad c) (R.fad f)/\∃ d,T.fns[f]? =some d
structure Gd (X:Cx) (G:Gx) (S:Sn) (k:Nat) (E:St->XK):Prop where
 hK:G.R.K=X.K
 hT:S.T=G.T
 sc:X.env.scope=S.sc
 N:X.N=S.N
 nd:S.N.Nodup
 pass:Passes (xb X.prog X.w) X E
 cm:G.cm=true->X.calm=true
 xok:G.cm=true->Ez X E
 xst:∃ e0 o0 L,X.stack=e0::o0/\e0.frame=some L/\X.env.frame=some L
 room:G.cm=true->bp (k+1) X.A
 un:X.A.units+200<cLine
 tab:zx X.K X.mg G.T G.R
 fns:∀ f d,G.T.fns[f]? =some d->vH X.prog X.w X.K X.mg X.base k (G.R.fad f) d (G.Ψ f)
variable {x:Str}{l es:List Expr}
section
variable {X:Cx}{G:Gx}{S:Sn}{k:Nat}{E:St->XK}
def Gd.cx (g:Gd X G S k E)(hc:G.cm=true)(U:St):lh X U (E U):=⟨λH s e C dx fs=>g.xok hc U H s e C dx fs,g.xst⟩
def Gd.bin (g:Gd X G S k E)(op:Operator):cz X (binaryOp op) (CG G.R.K op):=g.hK▸Cf op
def Gd.cmp (g:Gd X G S k E)(op:CmpOp):cz X (compareOp op) (o5 G.R.K op):=g.hK▸CK g.un op
def Gd.glob (g:Gd X G S k E)(h:S.pK x=true):Gl X x/\(x ==("__debug__":Str))=false:=by
 unfold Sn.pK at h;simp only[mo,decide_eq_true_eq,Bool.not_eq_true']at h;refine⟨?_,h.2⟩;show X.env.scope.names.lookup x=_;rw[g.sc];exact h.1
def Gd.DF (g:Gd X G S k E)(h:S.DF x=true):GD X.env.scope x/\(x ==("__debug__":Str))=false/\(x ==("__classdict__":Str))=false:=by
 unfold Sn.DF at h;simp only[mo,Bool.or_eq_true,decide_eq_true_eq,Bool.not_eq_true']at h;refine⟨?_,h.1.2,h.2⟩;unfold GD;rw[g.sc];rcases h.1.1 with(h|h)|h
 .exact .inl h
 .exact .inr (.inl h)
 .exact .inr (.inr h)
def Gd.loc (g:Gd X G S k E){i:Nat}(h:S.loc i x=true):X.N[i]? =some x/\L2.Loc X.env.scope x:=by
 unfold Sn.loc at h;simp only[mo,Bool.or_eq_true,decide_eq_true_eq]at h;rw[g.N];refine⟨h.1,?_⟩;unfold L2.Loc;rw[g.sc];exact h.2
def aQ:∀ {es:fw}{l:List Expr},i6 S es l=true->∀ (env:Env) (pos:Pos),(backTo pos (bv l env)).any (·.1)=false
 | .nil,[],_,_,_=>rfl
 | .nil,_::_,h,_,_=>by cases(show false=true from h)
 | .cons e es,[],h,_,_=>by cases(show false=true from h)
 | .cons e es,e'::l,h,env,pos=>by
  have h:(mE S e e'&&notStar e'&&i6 S es l)=true:=h;simp only[mo]at h;rw[af h.1.2];show((backTo pos (bv l env)).any (·.1))=false;exact aQ h.2 env pos
def lT:∀ {es:fw}{l:List Expr},i6 S es l=true->l.length=es.len
 | .nil,[],_=>rfl
 | .nil,_::_,h=>by cases(show false=true from h)
 | .cons e es,[],h=>by cases(show false=true from h)
 | .cons e es,e'::l,h=>by
  have h:(mE S e e'&&notStar e'&&i6 S es l)=true:=h;simp only[mo]at h;show l.length+1=es.len+1;rw[lT h.2]
def a8 {es:fw}(h:i6 S es (e::l)=true):notStar e=true/\∃ x es',es=.cons x es'/\i6 S es' l=true:=by
 cases es with
 |nil=>cases(show false=true from h)
 |cons x es'=>
  have h:(mE S x e&&notStar e&&i6 S es' l)=true:=h;simp only[mo]at h;exact⟨h.1.2,x,es',rfl,h.2⟩
def qW:∀ {es:fw}{l:List Expr},i6 S es l=true->es.len<20->∀ (env:Env) (cpos:Pos),methodCallForm (l.length+([]:List Keyword).length) (backTo cpos (bv l env)) (backToKw cpos (keywordEach [] env))=true:=by
 intro es l h hl env cpos;have h1:=aQ h env cpos;have h2:=lT h;have h3:(backTo cpos (bv l env)).all (λx=>!x.1)=true:=by
  rw[all_eq_true];intro x hx;rw[any_eq_false]at h1;simpa using h1 x hx
 unfold methodCallForm;rw[h3,h2];simp[keywordEach,backToKw]
 omega
def kX {m:Str}{apos pos:Pos}{env:Env}(hb:c9 o=true)(hf:methodCallForm (es.length+([]:List Keyword).length) (backTo pos (bv es env)) (backToKw pos (keywordEach [] env))=true)(hl:(apos.endLine ==pos.line)=true):
  eval (.Call (.Attribute o m apos) es [] pos) env=(do
   let ov <-eval o env
   standAt apos.atName
   let(f,first) <-holding [ov] (getMethod ov m (do return (<-importBound o env).getD true))
   callWith pos f first (backTo pos (bv es env)) (backToKw pos (keywordEach [] env))):=by
 show(do
  let ov <-attributeBase o m env (eval o env)
  standAt apos.atName
  methodCall o m apos pos env ov (es.length+([]:List Keyword).length) (backTo pos (bv es env)) (backToKw pos (keywordEach [] env)))=_
 rw[aZ hb];unfold methodCall calleeOf methodCallPos;rw[hf,hl]
 rfl
def vY {es:fw}(h:i6 S es (e::l)=true)(hl:es.len<20)(env:Env)(cpos:Pos):
  ((backTo cpos (bv (e::l) env)).all (λx=>!x.1)&&(backToKw cpos (keywordEach [] env)).all (λx=>x.1.isSome)
   &&decide ((e::l).length+([]:List Keyword).length+(if([]:List Keyword).isEmpty then 0 else 1)<30))=true:=by
 have h1:=aQ h env cpos;have h2:=lT h;have h3:(backTo cpos (bv (e::l) env)).all (λx=>!x.1)=true:=by
  rw[all_eq_true];intro x hx;rw[any_eq_false]at h1;simpa using h1 x hx
 rw[h3,h2];simp[keywordEach,backToKw]
 omega
def rH {b:Ex}{b':Expr}(h:mE S b b'=true)(n:notStar b'=true)(env:Env)(cpos:Pos):
  ((backTo cpos (bv [b'] env)).all (λx=>!x.1)&&(backToKw cpos (keywordEach [] env)).all (λx=>x.1.isSome)
   &&decide (([b']:List Expr).length+([]:List Keyword).length+(if([]:List Keyword).isEmpty then 0 else 1)<30))=true:=
 vY (es:=.cons b .nil) (by show(mE S b b'&&notStar b'&&true)=true;rw[h,n];rfl) (pc rfl) env cpos
end
variable {K:W.Frag}{H:Hp}{Y:JV}{a:Addr}
section
variable {X:Cx}{G:Gx}{S:Sn}{k:Nat}{E:St->XK}
def hU {x:V}{t:String}(h:tyName x H=some t):gg K H x (.type t):=by
 unfold tyName at h
 split at h
 .cases h;exact .non
 .cases h;exact .bl _
 .cases h;exact .int _
 .cases h;exact .str _
 .split at h
  .rename_i e;cases h;exact .lst e
  .rename_i e;cases h;exact .tup e
  .rename_i e;cases h;exact .dK (.inl e)
  .rename_i e;cases h;exact .dK (.inr ⟨_,e⟩)
  .cases h
 .cases h
def rh {s:Shared}{U:St}{Q:VK}{i:Nat}{b:Bool}{cv:Value}(g:Gd X G S k E)(I:Inv X Y U H s)(o:sk G H a i)
  (e:W.kitOne X.K (.ref (G.R.cad i)) cv=some b) (q:Q (.bl b) H):wpAny (model X.prog X.w) X.A (call (.builtin "isinstance") [.ref a,cv]) (EP X Y U Q) X.xe s:=by
 rcases o with⟨ho,dx,fs,ha⟩|⟨ho,dx,fs,fr,ha⟩
 .obtain⟨c,z⟩:=g.tab.oc i ho;exact gU I (x:=.ref a) rfl (.ins ha c z.ha z.hn z.htk z.hm) e λtk=>⟨.bl b,H,I.tok _,rfl,q⟩
 .obtain⟨c,z⟩:=g.tab.xc i ho;exact vx I ha c z e λtk=>⟨.bl b,H,I.tok _,rfl,q⟩
def AO (g:Gd X G S k E)(j:Nat):cg X (.builtin "isinstance") (λvs H Q=>∃ x,vs=[x,.ref (G.R.cad j)]/\gf G (.own j) x H Q):=by
 intro Y s U H xs us Q I r h;obtain⟨x,rfl,h⟩:=h;obtain⟨u,w',rfl,rx,rT⟩:=vals2 r;obtain rfl:w'=Value.ref (G.R.cad j):=rT;unfold gf at h;rcases h with⟨t,b,ht,hb,q⟩|⟨a,i,b,rfl,ho,hb,q⟩
 .exact gU I rx (hU ht) (g.tab.subO t j b hb) λtk=>⟨.bl b,H,I.tok _,rfl,q⟩
 .obtain rfl:u=Value.ref a:=rx;exact rh g I ho (g.tab.sub i j b hb).1 q
def DC (g:Gd X G S k E)(n:String):cg X (.builtin "isinstance") (λvs H Q=>∃ x,vs=[x,.ty n]/\gf G (.ty n) x H Q):=by
 intro Y s U H xs us Q I r h;obtain⟨x,rfl,h⟩:=h;obtain⟨u,w',rfl,rx,rT⟩:=vals2 r;obtain rfl:w'=Value.type n:=rT;unfold gf at h;rcases h with⟨t,b,ht,hb,q⟩|⟨a,i,b,rfl,ho,hb,q⟩
 .exact gU I rx (hU ht) (g.tab.subB t n b hb) λtk=>⟨.bl b,H,I.tok _,rfl,q⟩
 .obtain rfl:u=Value.ref a:=rx;exact rh g I ho (g.tab.subT i n b hb) q
def A3 {n:String}(h:jd.contains n=true):bootBuiltins (n:Str)=some (.type n):=by
 have h':n ∈ jd:=by simpa using h
 simp only[jd,lw,not_mem_nil,or_false]at h';rcases h' with rfl|rfl|rfl|rfl|rfl|rfl|rfl<;>decide+kernel
abbrev IQ (G:Gx):Cl->V
 | .own c=>.ref (G.R.cad c)
 | .ty n=>.ty n
def G5 (g:Gd X G S k E){c:Cl}(h:zr S c e=true):PE X e (tC (IQ G c)):=by
 unfold zr at h
 split at h
 .simp only[mo,decide_eq_true_eq]at h;obtain⟨hg,hd⟩:=g.glob h.1;exact mf hg (g.tab.gcl _ _ (g.hT▸h.2)) rfl hd
 .simp only[mo,decide_eq_true_eq]at h;obtain⟨⟨⟨h1,rfl⟩,h3⟩,h4⟩:=h;obtain⟨hg,hd⟩:=g.glob h1;obtain⟨hm,hn⟩:=g.tab.gbl _ (g.hT▸h3);exact AL hg hm (A3 h4) rfl hn hd
 .cases h
def Dy (g:Gd X G S k E)(c:Cl):cg X (.builtin "isinstance") (λvs H Q=>∃ x,vs=[x,IQ G c]/\gf G c x H Q):=by
 cases c with
 |own j=>exact AO g j
 |ty n=>exact DC g n
def v7 (g:Gd X G S k E){i:Nat}{b:Bool}:∀ {cs:List Nat},anyS G i cs=some b->W.kitAny X.K (.ref (G.R.cad i)) ((cs.map λc=>G.R.cad c).map Value.ref)=some b
 | [],h=>h
 |c::cs,h=>by
  have e:∀ b',G.T.sub.lookup (i,c)=some b'->W.kitOne X.K (.ref (G.R.cad i)) (.ref (G.R.cad c))=some b':=λb' hb=>(g.tab.sub i c b' hb).1
  unfold anyS at h;show(match W.kitOne X.K (.ref (G.R.cad i)) (.ref (G.R.cad c)) with|some true=>some true|some false=>W.kitAny X.K (.ref (G.R.cad i)) ((cs.map λc=>G.R.cad c).map Value.ref)|none=>none)=some b
  split at h
  .rename_i q;rw[e _ q];exact h
  .rename_i q;rw[e _ q];exact v7 g h
  .cases h
def Cb (g:Gd X G S k E){t:String}{b:Bool}:∀ {cs:List Nat},A6 G t cs=some b->W.kitAny X.K (.type t) ((cs.map λc=>G.R.cad c).map Value.ref)=some b
 | [],h=>h
 |c::cs,h=>by
  have e:∀ b',G.T.subO.lookup (t,c)=some b'->W.kitOne X.K (.type t) (.ref (G.R.cad c))=some b':=λb' hb=>g.tab.subO t c b' hb
  unfold A6 at h;show(match W.kitOne X.K (.type t) (.ref (G.R.cad c)) with|some true=>some true|some false=>W.kitAny X.K (.type t) ((cs.map λc=>G.R.cad c).map Value.ref)|none=>none)=some b
  split at h
  .rename_i q;rw[e _ q];exact h
  .rename_i q;rw[e _ q];exact Cb g h
  .cases h
def yw (g:Gd X G S k E)(cs:List Nat):cg X (.builtin "isinstance") (λvs H Q=>∃ x p,vs=[x,.ref p]/\H p=some (.tup ((cs.map λc=>G.R.cad c).map V.ref))/\nY G cs x H Q):=by
 intro Y s U H xs us Q I r h;obtain⟨x,p,rfl,hp,h⟩:=h;obtain⟨u,w',rfl,rx,rT⟩:=vals2 r;obtain rfl:w'=Value.ref p:=rT;unfold nY at h;rcases h with⟨t,b,ht,hb,q⟩|⟨a,i,b,rfl,ho,hb,q⟩
 .obtain⟨P,Z,hP,hx⟩:=om I rx (hU (K:=X.K) ht);exact lu I Z hP hx hp (Cb g hb) λtk=>⟨.bl b,H,I.tok _,rfl,q⟩
 .obtain rfl:u=Value.ref a:=rx;rcases ho with⟨ho,dx,fs,ha⟩|⟨ho,dx,fs,fr,ha⟩
  .obtain⟨c,z⟩:=g.tab.oc i ho;obtain⟨P,Z,hP,hx⟩:=om I (x:=.ref a) rfl (.ins ha c z.ha z.hn z.htk z.hm);exact lu I Z hP hx hp (v7 g hb) λtk=>⟨.bl b,H,I.tok _,rfl,q⟩
  .obtain⟨c,z⟩:=g.tab.xc i ho;obtain⟨ox,odo,J⟩:=nJ I ha;exact lu I (ow (ox:=ox) (odo:=odo) c z) J (λz=>nomatch z) hp (v7 g hb) λtk=>⟨.bl b,H,I.tok _,rfl,q⟩
def x8 (g:Gd X G S k E):∀ {cs:List Nat}{es:List Expr},se S cs es=true->PA X es (λU H Q=>Q (cs.map λc=>.ref (G.R.cad c)) H)
 | [],[],_=>dH
 | [],_::_,h=>by cases(show false=true from h)
 |_::_,[],h=>by cases(show false=true from h)
 |c::cs,e::es,h=>by
  unfold se at h
  split at h
  .rename_i h1 h2;cases h1
  .rename_i c' cs' x p es' h1 h2;cases h1;cases h2;simp only[mo,decide_eq_true_eq]at h;obtain⟨hg,hd⟩:=g.glob h.1.1;exact ke (mf (v:=.ref (G.R.cad _)) hg (g.tab.gcl _ _ (g.hT▸h.1.2)) rfl hd) (x8 g h.2) rfl
  .cases h
abbrev vc:Bf->Value
 | .len=>.builtin "len"| .list=>.type "list"| .tuple=>.type "tuple"| .int=>.type "int"| .str=>.type "str"| .min=>.builtin "min"| .max=>.builtin "max"| .abs=>.builtin "abs"| .all=>.builtin "all"| .any=>.builtin "any"| .dict=>.type "dict"| .sum=>.builtin "sum"
def Ab (b:Bf):bootBuiltins (xi b:Str)=some (vc b):=by cases b<;>decide+kernel
def sJ:∀ {bs:List Bool}{us:List Value},Vals (bs.map V.bl) us->PyProof.Rows.LSm.BoolsAre us bs
 | [],_,h=>by cases h;exact .nil
 |b::bs,_,h=>by
  cases h with
  |cons r1 r2=>
   obtain rfl:_=Value.bool b:=r1;exact .cons b (sJ r2)
def t7 (hc:X.calm=true):cg X (.builtin "all") (λxs H Q=>∃ p,∃ bs:List Bool,xs=[.ref p]/\aP X.K H p (bs.map V.bl)/\Q (.bl (bs.all id)) H):=by
 intro Y s U H xs us Q I r h;obtain⟨p,bs,rfl,hq,q⟩:=h;obtain⟨u,rfl,rx⟩:=vals1 r;cases rx;obtain⟨its,r',pl,hz⟩:=I.list hq;have hb:=sJ r';have hl:=pl.isList;have lt:p<s.heap.objs.size:=by obtain⟨_,e,_⟩:=hl;exact u8 e
 refine call_all_walk (wpAny_pyIter_list hl ⟨s.heap.objs.size,[s.heap.objs.size,p],[s.heap.objs.size],its.toArray.size,_,_,λi=>(bs[i]?).getD true,rfl,
  Walks.list (A:=X.A.in1) (I.ok.hd hc) _ p (pi lt) its.toArray,⟨⟨_,ul _ rfl,rfl,rfl⟩,hl.push _⟩,λi v s' Q' E' hP hQ=>?_,λh' tk hk=>?_⟩)
 .obtain⟨b,e,rfl⟩:=hb.get i v (by simpa using hP);have hQ:Q' ((bs[i]?).getD _) s':=hQ;rw[e]at hQ;exact bm hQ
 .have e:((List.range its.toArray.size).all λi=>(bs[i]?).getD true)=bs.all id:=by
   rw[im,hb.length,PyProof.Rows.LSm.range_all]
  rw[e];exact⟨.bl _,H,I.kept (PyProof.Rows.LSm.kept_iter hk),rfl,q⟩
def G2 (g:Gd X G S k E)(b:Bf):cg X (vc b) (gP G b):=by
 intro Y s U H xs us Q I r h;unfold gP at h;rw[g.hK]at h;cases b with
 |len=>exact vg Y s U H _ us Q I r h
 |list=>
  rcases h with h|⟨hc,p,kvs,rfl,hp,q⟩
  .exact mV Y s U H _ us Q I r h
  .obtain⟨u,rfl,ru⟩:=vals1 r;cases ru;exact pX (g.cm hc) I hp q
 |tuple=>exact j9 Y s U H _ us Q I r h
 |int=>
  rcases h with h|⟨z,n,rfl,hn,hl,q⟩
  .exact uD Y s U H _ us Q I r h
  .obtain⟨u,rfl,t,rfl⟩:=vals1 r;exact t8 hn hl ⟨.int n,H,I.tok _,⟨_,rfl⟩,q⟩
 |str=>
  rcases h with h|⟨z,rfl,q⟩
  .exact mD Y s U H _ us Q I r h
  .obtain⟨u,rfl,t,rfl⟩:=vals1 r;exact PySem.P.str_of_str ⟨.str z,H,I,⟨_,rfl⟩,q⟩
 |min=>
  rcases h with⟨hc,h|h⟩
  .exact uy (g.cm hc) Y s U H _ us Q I r h
  .exact h.elim
 |max=>exact h.elim
 |abs=>exact h.elim
 |all=>exact t7 (g.cm h.1) Y s U H _ us Q I r h.2
 |any=>exact h.elim
 |dict=>exact h.elim
 |sum=>exact h.elim
abbrev D0:Lm->String
 | .append=>"list.append"| .extend=>"list.extend"| .insert=>"list.insert"| .pop=>"list.pop"| .clear=>"list.clear"| .reverse=>"list.reverse"| .count=>"list.count"
def sq (m:Lm):Slot "list" (wW m:Str) (D0 m):=by
 cases m
 .exact PySem.F.slot_list_append
 .exact PySem.F.slot_list_extend
 .exact PySem.F.slot_list_insert
 .exact PySem.F.slot_list_pop
 .exact PySem.F.slot_list_clear
 .exact PySem.F.slot_list_reverse
 .exact PySem.F.slot_list_count
def BH (m:Lm):typeOf (.builtin (D0 m))=pure (.type "method_descriptor"):=by cases m<;>rfl
abbrev JK (m:Lm):V->List V->Hp->VK->Prop:=λx vs H Q=>∃ p xs,x=.ref p/\H p=some (.lst xs)/\yp m p xs vs H Q
def Bl (m:Lm):B6 X (D0 m) (JK m):=by
 intro Y s U H x vs v us Q I rx rv h;obtain⟨p,xs,rfl,hp,h⟩:=h;unfold yp at h;cases m with
 |append=>
  obtain⟨y,rfl,h⟩:=h;exact gM Y s U H _ _ v us Q I rx rv ⟨p,xs,_,rfl,rfl,hp,Nat.lt_of_le_of_lt h.1 (by decide),h.2⟩
 |extend=>
  obtain⟨b,zs,rfl,hz,hl,q⟩:=h;exact uK Y s U H _ _ v us Q I rx rv ⟨p,_,xs,zs,rfl,rfl,hp,hz,f6 nofun,q⟩
 |insert=>
  obtain⟨i,y,rfl,h⟩:=h;exact uz Y s U H _ _ v us Q I rx rv ⟨p,xs,_,_,rfl,rfl,hp,h.1,h.2.1,Nat.lt_of_le_of_lt h.2.2.1 (by decide),h.2.2.2⟩
 |pop=>exact h.elim
 |clear=>exact h.elim
 |reverse=>exact h.elim
 |count=>exact h.elim
abbrev DZ:Sm->String
 | .join=>"str.join"| .split=>"str.split"| .starts=>"str.startswith"
def A5 (m:Sm):Slot "str" (xA m:Str) (DZ m):=by
 cases m
 .exact PySem.F.slot_str_join
 .exact PySem.F.slot_str_split
 .exact PySem.F.slot_str_startswith
def Fe (m:Sm):typeOf (.builtin (DZ m))=pure (.type "method_descriptor"):=by cases m<;>rfl
abbrev Jy (K:W.Frag)(m:Sm):V->List V->Hp->VK->Prop:=λx vs H Q=>∃ z y,x=.str z/\vs=[y]/\x6 K m z y H Q
def Fd (m:Sm):B6 X (DZ m) (Jy X.K m):=by
 intro Y s U H x vs v us Q I rx rv h;obtain⟨z,y,rfl,rfl,h⟩:=h;unfold x6 at h;cases m with
 |join=>exact yx Y s U H _ _ v us Q I rx rv h
 |split=>exact xX Y s U H _ _ v us Q I rx rv h
 |starts=>exact tD Y s U H _ _ v us Q I rx rv h
def xT {m:Str}{apos pos:Pos}{ta:TE}{t:TA}{pl:Sem Bool}{n:Nat}(g:Gd X G S k E)(hc:G.cm=true)(he:PE X o ta)(ha:PA X es t)
  (hnil:es=[]->∀ U H R,t U H R->R [] H) (hst:∀ e r,es=e::r->bv es X.env=(false,eval e X.env)::bv r X.env) (hpl:∀ e r,es=e::r->(backTo pos (bv r X.env)).any (·.1)=false)
  (ht:eval (.Call (.Attribute o m apos) es [] pos) X.env=(do
   let ov <-eval o X.env
   standAt apos.atName
   let(f,first) <-holding [ov] (getMethod ov m pl)
   callWith pos f first (backTo pos (bv es X.env)) (backToKw pos (keywordEach [] X.env)))):
  PE X (.Call (.Attribute o m apos) es [] pos) (λU H Q=>ta U H λx H1=>∃ p i dx fs f,x=.ref p/\H1 p=some (.ins (G.R.cad i) dx fs)/\fs.lookup m=none/\G.T.me.lookup (i,m)=some f/\
   t U H1 λvs H2=>G.Ψ f (x::(vs++dflt G f n)) H2 Q (E U)):=by
 intro Y s U H Q I h;refine W.methodCall_KW (pl:=pl) (aC (he Y s U H _ I h) λu s1 ⟨x,H1,I1,rx,a,i,dx,fs,f,ex,ea,l,hf,q⟩=>?_) ht;subst ex;obtain rfl:u=Value.ref a:=rx;obtain⟨c,hm,d,hd⟩:=g.tab.me i m f hf;obtain⟨fd,F,B⟩:=(g.fns f d hd).fact;have hr:bp k X.A:=(g.room hc).mono (Nat.le_succ _);obtain⟨ds,hb,hv⟩:∃ ds,Binds X.K fd d.ps ds/\Vals (dflt G f n) ds:=by
  unfold dflt;rw[hd];exact B _
 refine qO I1 ea c hm l ?_;cases es with
 |nil=>
  refine W.callWith_K0 (first:=[.ref a]) I1.bw hm.kp ?_;exact mr (us:=[.ref a]) (vs:=[.ref a]) F hr hb hv g.pass I1 (.cons rfl .nil) (hnil rfl _ _ _ q)
 |cons e r=>
  refine W.callWith_K (first:=[.ref a]) (h₀:=X.base) I.ok.mod.kin hm.kp (aC (ha pos Y s1 U H1 _ I1 q) λus s2 ⟨vs,H2,I2,r,q2⟩=>⟨I2.bw,?_⟩) (hst e r rfl) (hpl e r rfl);exact mr (us:=.ref a::us) (vs:=.ref a::vs) F hr hb hv g.pass I2 (.cons rfl r) q2
end
def Cc {α β:Type}{f:α->Option β}:∀ {l:List α}{j:Nat}{y:β},(∀ a ∈ l,(f a).isSome=true)->(l.filterMap f)[j]? =some y->∃ a,l[j]? =some a/\f a=some y
 | [],_,_,_,h=>by simp at h
 |a::l,j,y,hs,h=>by
  obtain⟨b,hb⟩:=Option.isSome_iff_exists.mp (hs a lv);rw[filterMap_cons,hb]at h;cases j with
  |zero=>simp at h;exact⟨a,rfl,by rw[hb,h]⟩
  |succ j=>
   simp at h;obtain⟨a',h1,h2⟩:=Cc (λa ha=>hs a (f8 _ ha)) h;exact⟨a',by simpa using h1,h2⟩
def u9 {α β:Type}{f:α->Option β}:∀ {l:List α},(∀ a ∈ l,(f a).isSome=true)->(l.filterMap f).length=l.length
 | [],_=>rfl
 |a::l,hs=>by
  obtain⟨b,hb⟩:=Option.isSome_iff_exists.mp (hs a lv);rw[filterMap_cons,hb];simp[u9 (λa ha=>hs a (f8 _ ha))]
abbrev jH (env:Env):Str×NameKind->List (Str×Addr)->Sem (ForInStep (List (Str×Addr))):=λnk r=>do
 let cs:=r
 if(nk.2 ==NameKind.free)=true then do
  let a <-cellOf env nk.1
  pure (ForInStep.yield ((nk.1,a)::cs))
 else pure (ForInStep.yield cs)
def l9 {env:Env}:∀ (names:List (Str×NameKind)) (cs:List (Str×Addr)),(∀ y ∈ names,y.2=.free->∃ c,env.cells.lookup y.1=some c)->
  ∃ cl,(forIn names cs (jH env):Sem _)=pure cl/\(∀ y c,cl.lookup y=some c->cs.lookup y=some c\/env.cells.lookup y=some c)/\(∀ y,(cs.lookup y).isSome=true->(cl.lookup y).isSome=true)/\∀ y ∈ names,y.2=.free->(cl.lookup y.1).isSome=true
 | [],cs,_=>⟨cs,rfl,λy c h=>.inl h,λy h=>h,λy hy=>absurd hy (by simp)⟩
 |(n,kd)::r,cs,h=>by
  by_cases hk:kd=.free
  .subst hk;obtain⟨c,hc⟩:=h (n,.free) lv rfl;obtain⟨cl,h1,h2,h3,h4⟩:=l9 r ((n,c)::cs) λy hy=>h y (f8 _ hy)
   have self:(((n,c)::cs).lookup n).isSome=true:=by simp[lookup_cons]
   refine⟨cl,?_,λy d q=>?_,λy q=>h3 y ?_,λy hy hf=>?_⟩
   .rw[forIn_cons];have e:jH env (n,.free) cs=pure (ForInStep.yield ((n,c)::cs)):=by
     unfold jH;simp only[cellOf,hc]
     rfl
    rw[e];exact h1
   .rcases h2 y d q with q|q
    .rw[lookup_cons]at q
     by_cases e:y=n
     .subst e;simp at q;subst q;exact .inr hc
     .rw[show(y ==n)=false from beq_eq_false_iff_ne.mpr e]at q;exact .inl q
    .exact .inr q
   .rw[lookup_cons];cases(y ==n)<;>simp[q]
   .rcases lw.mp hy with rfl|hy
    .exact h3 _ self
    .exact h4 y hy hf
  .obtain⟨cl,h1,h2,h3,h4⟩:=l9 r cs λy hy=>h y (f8 _ hy)
   refine⟨cl,?_,h2,h3,λy hy hf=>?_⟩
   .rw[forIn_cons];have e:jH env (n,kd) cs=pure (ForInStep.yield cs):=by
     unfold jH;cases kd<;>first|rfl|exact absurd rfl hk
    rw[e];exact h1
   .rcases lw.mp hy with rfl|hy
    .exact absurd hf hk
    .exact h4 y hy hf
variable {scope:Scope}
def Al {env:Env}(h:∀ y ∈ scope.names,y.2=.free->∃ c,env.cells.lookup y.1=some c):
  ∃ cl,closureFor scope env=pure cl/\(∀ y c,cl.lookup y=some c->env.cells.lookup y=some c)/\∀ y ∈ scope.names,y.2=.free->(cl.lookup y.1).isSome=true:=by
 obtain⟨cl,h1,h2,_,h4⟩:=l9 scope.names [] h;refine⟨cl,?_,λy c q=>(h2 y c q).resolve_left (by simp),h4⟩;have e:closureFor scope env=(forIn scope.names [] (jH env) >>= λcs=>pure cs):=by
  unfold closureFor jH
  rfl
 rw[e,h1]
 rfl
variable {xs:List Str}{sel:List Nat}
section
variable {X:Cx}{G:Gx}{S:Sn}{k:Nat}{E:St->XK}
def oM (g:Gd X G S k E)(scope:Scope):relabel scope X.env=du S.sc scope:=by
 unfold relabel du Env.kindOf;rw[g.sc]
def bQ (g:Gd X G S k E)(ok:X.Ok)(h:fk S scope xs sel=true):∃ cl,a4 X scope cl xs (sel.filterMap λi=>S.N[i]?) sel:=by
 unfold fk at h;simp only[mo,decide_eq_true_eq,all_eq_true,Bool.or_eq_true,bne_iff_ne,ne_eq]at h;obtain⟨⟨⟨⟨⟨h1,h2⟩,h3⟩,h4⟩,h5⟩,h6⟩:=h;have hs:∀ i ∈ sel,(S.N[i]?).isSome=true:=λi hi=>by
  have:=h5 i hi
  split at this
  .rename_i e;rw[e];rfl
  .cases this
 obtain⟨cl,c1,c2,c3⟩:=Al (env:=X.env) (scope:=scope) λy hy hf=>ok.has y.1 (.inl (by
  show X.env.scope.names.lookup y.1=_;rw[g.sc];exact((h3 y hy).2).resolve_left λz=>z hf))
 refine⟨cl,⟨c1,c2,λy hy=>?_,h1,λy hy=>(h3 y hy).1.1,λy hy hl=>((h3 y hy).1.2).resolve_left λz=>z hl,h4,(u9 hs).symm,λj y hj=>?_,h6⟩⟩
 .have:∃ kd,(y,kd) ∈ scope.names/\kd=.free:=by
   rcases hy with hy|hy
   .obtain⟨kd,m,q⟩:=c7 hy;rcases q with q|q
    .subst q;exact absurd rfl (h3 _ m).1.1
    .exact⟨kd,m,q.1⟩
   .obtain⟨kd,m,q⟩:=c7 hy;rcases q with q|q
    .exact⟨kd,m,q.symm⟩
    .exact nomatch q.2
  obtain⟨kd,m,rfl⟩:=this;exact Option.isSome_iff_exists.mp (c3 _ m rfl)
 .obtain⟨i,hi,hn⟩:=Cc hs hj;have q:=h5 i (dl hi);rw[hn]at q;simp only[mo,decide_eq_true_eq]at q;refine⟨i,hi,by rw[g.N];exact hn,by rw[g.sc];exact q.1,by rw[oM g];exact q.2⟩
def Gd.comp (g:Gd X G S k E){cl:List (Str×Addr)}(C:a4 X scope cl xs (sel.filterMap λi=>S.N[i]?) sel) (E0:XK) (s:Shared) (H:Hp) (fp:List Addr):
  Gd (fB X scope cl (xs++sel.filterMap λi=>S.N[i]?) s H fp E0) G { S with sc:=du S.sc scope,N:=xs++sel.filterMap λi=>S.N[i]? } k (λ_=>E0) where
 hK:=g.hK
 hT:=g.hT
 sc:=oM g scope
 N:=rfl
 nd:=C.nd
 pass:=gO Bs
 cm:=g.cm
 xok:=λ_=>Bs
 xst:=g.xst
 room:=g.room
 un:=g.un
 tab:=g.tab
 fns:=g.fns
def nH (env:Env):∀ {is:List Nat}{ts:List Expr},xg S is ts=true->(assignEach ts env).length=is.length/\(assignEach ts env).findIdx? (·.1)=none
 | [],[],_=>⟨rfl,rfl⟩
 | [],_::_,h=>by simp[xg]at h
 |_::_,[],h=>by simp[xg]at h
 |i::is,t::ts,h=>by
  cases t<;>simp[xg]at h
  rename_i x p;obtain⟨h1,h2⟩:=nH env h.2;have e:assignEach (.Name x p::ts) env=(false,assign (.Name x p) env)::assignEach ts env:=rfl;rw[e];refine⟨by simp[h1],?_⟩;rw[List.findIdx?_cons];simp[h2]
def sN (g:Gd X G S k E):∀ {is:List Nat}{ts:List Expr},xg S is ts=true->CS X ts (gl is)
 | [],[],_=>λY s U H vs us Q I r h=>mJ Y s U H vs us Q I r ⟨length_eq_zero_iff.mp h.1,by
   have:=h.2;have e:vs=[]:=length_eq_zero_iff.mp h.1;subst e;exact this⟩
 | [],_::_,h=>by simp[xg]at h
 |_::_,[],h=>by simp[xg]at h
 |i::is,t::ts,h=>by
  cases t<;>simp[xg]at h
  rename_i x p;have hl:X.env.scope.names.lookup x=some .local:=by rw[g.sc];exact h.1.2
  have h1:PG X (.Name x p) (gc i):=gr (by rw[g.N];exact g.nd) (by rw[g.N];exact h.1.1) (.inl hl) (.inr hl);have h2:=sN g h.2;intro Y s U H vs us Q I r q;refine gv h1 h2 rfl Y s U H vs us Q I r ?_;obtain⟨hl,q⟩:=q;cases vs with
  |nil=>simp at hl
  |cons v vs=>exact⟨v,vs,rfl,by simpa using hl,q⟩
def AH (g:Gd X G S k E)(hc:G.cm=true){n kt:Nat}{ts:List Expr}{pt:Pos}(h:xg S (List.range n) ts=true):PG X (.Tuple ts kt pt) (An G.R.K n (gl (List.range n))):=by
 obtain⟨e1,e2⟩:=nH X.env h;rw[List.length_range]at e1;rw[g.hK];exact lF (g.cm hc) (sN g h) e1 e2
def AW {n:Nat}(h:xs.length=n):ou xs=sw n none:=by
 subst h;unfold ou;rw[List.map_const']
end
set_option maxHeartbeats 2000000
variable {r:List Expr}{p:Pos}{U:L2.St}{s1:Shared}{R:It->Hp->Prop}{keys:List (Option Expr)}
section
variable {G:Gx}{k:Nat}
def jM {o1 o2:CmpOp}{c:Expr}(h:cF c=true):lastMarks [o1,o2] [b,c]=false:=by
 show behindInMarks o2 c=false;exact dJ h _
def xm {t:TE}(h:PE X (match r with| []=>b|_=>.BoolOp .And (b::r) p) t):PE X (.BoolOp .And (b::r) p) t:=by
 cases r with
 |nil=>exact xl h
 |cons c r=>exact h
def vz {t:TE}(h:PE X (match r with| []=>b|_=>.BoolOp .Or (b::r) p) t):PE X (.BoolOp .Or (b::r) p) t:=by
 cases r with
 |nil=>exact xl h
 |cons c r=>exact h
def B7 {op:BoolOp}(h:PT X (.BoolOp op l p) t):PW X (.BoolOp op l p) t:=λwhole Y s U H Q I q=>by
 have:=h Y s U H Q I q;exact this
def ye (h:PT X (match r with| []=>b|_=>.BoolOp .And (b::r) p) t):PW X (.BoolOp .And (b::r) p) t:=by
 cases r with
 |nil=>exact AR h
 |cons c r=>exact B7 h
def xx (h:PT X (match r with| []=>b|_=>.BoolOp .Or (b::r) p) t):PW X (.BoolOp .Or (b::r) p) t:=by
 cases r with
 |nil=>exact D8 h
 |cons c r=>exact B7 h
def zf:Hf X (unaryOp .USub) (λx H Q=>match x with| .int i=>Q (.int (-i)) H|_=>False):=by
 intro Y s U H x v Q I r h
 split at h
 .exact(L2.DS Y s U H _ v Q I r ⟨_,rfl,h⟩)
 .exact h.elim
def ud {CX:su}{C f:Addr}{fd:FuncData}{ps:List Str}{sp:Sp}{dvs:List V}{ds:List Value}{E:St->XK}{pos:Pos}(M:Hl X.K C f)(F:cT X.prog X.w X.K X.mg X.base CX k f fd ps sp)(hr:bp (k+1) X.A)(hg:Gl X x)(hm:X.mg x=some (.ref C))(hb:Binds X.K fd ps ds)(hd:Vals dvs ds)(hx:Passes CX X E)
  (hdb:(x ==("__debug__":Str))=false):PE X (.Call (.Name x p) [] [] pos) (ve C sp dvs E AA):=by
 intro Y s U H Q I h;refine ci (ba I hg hm ?_ hdb);exact W.callWith_K0 I.bw M.kp (kH (us:=[]) M F hr hb hd hx (Nat.zero_le _) I .nil h.2)
def cz.cn {f:Value->Value->Sem Value}{r:R2}(h:cz X f r):cz X f (λx y H R=>∃ Q,r x y H Q/\∀ z H1,Q z H1->R z H1):=λY s U H x y v u R I rx ry ⟨Q,q,i⟩=>
 aC (h Y s U H x y v u Q I rx ry q) λ_ _ ⟨v,H',J,r,z⟩=>⟨v,H',J,r,i _ _ z⟩
section
open PyProof.Rows
def uF {tg:Expr}{H1:Hp}{v:Value}{xs:List V}(I1:Inv X Y U H1 s1)(r:RelV (.ref a) v)(hq:aP X.K H1 a xs)(q:R (EE X.K a) H1):
  wpAny (model X.prog X.w) X.A (pyIter v) (FA X Y U tg R) X.xe s1:=by
 cases r;obtain⟨its,rv,p,hz⟩:=I1.list hq;refine wpAny_pyIter_list p.isList ?_;refine⟨s1.heap.objs.size,[s1.heap.objs.size],_,_,H1,rfl,I1.kept (t':=s1.toks) λb o e=>tz _ e,um a _,⟨_,ul _ rfl,rfl,rfl⟩,λb hb=>?_,q⟩;have e:b=s1.heap.objs.size:=by simpa using hb
 subst e;exact I1.vb (re _) (I1.hok.fresh (re _))
def vL {tg:Expr}{H1:Hp}{v:Value}{xs:List V}(I1:Inv X Y U H1 s1)(r:RelV (.ref a) v)(hq:a5 X.K H1 a xs)(q:R (ER X.K a) H1):
  wpAny (model X.prog X.w) X.A (pyIter v) (FA X Y U tg R) X.xe s1:=by
 cases r;obtain⟨its,rv,p,hz⟩:=I1.tuple hq;refine wpAny_pyIter_tuple (show s1.heap.IsTuple a its.toArray from p) ?_;refine⟨s1.heap.objs.size,[s1.heap.objs.size],_,_,H1,rfl,I1.kept (t':=s1.toks) λb o e=>tz _ e,qL a _,⟨_,ul _ rfl,rfl,rfl⟩,λb hb=>?_,q⟩;have e:b=s1.heap.objs.size:=by simpa using hb
 subst e;exact I1.vb (re _) (I1.hok.fresh (re _))
end
def Es {x:V}{Q:Bool->Hp->Prop}(h:DP K x H Q):∃ k,yB K x H k/\Q k H:=by
 unfold DP at h
 split at h
 .exact⟨_,rfl,h⟩
 .exact h
abbrev Hj:List Str->List V->List (V×V)
 |k::ks,x::xs=>(.str k,x)::Hj ks xs
 |_,_=>[]
def u6:∀ {ks:List Str}{xs:List V},Hj ks xs=(DL ks xs).map (λkv=>(kV kv.1,kv.2))
 | [],_=>rfl
 |_::_,[]=>rfl
 |k::ks,x::xs=>by
  show(V.str k,x)::Hj ks xs=(kV (.inr k),x)::(DL ks xs).map _;rw[u6]
  rfl
def qU:∀ {ks:List Str}{xs:List V},(DL ks xs).length<=ks.length
 | [],_=>re _
 |_::_,[]=>Nat.zero_le _
 |k::ks,x::xs=>Nat.succ_le_succ qU
def gW {k:Str}{ks:List Str}(h:lX (k::ks) keys=true):∃ j p r,keys=some (.Constant (.str k) j p)::r/\lX ks r=true:=by
 unfold lX at h
 split at h
 .rename_i e;cases e
 .rename_i k' ks' x j p r e
  injection e with e1 e2
  subst e1 e2;simp only[mo,decide_eq_true_eq]at h;obtain⟨rfl,h⟩:=h;exact⟨_,_,_,rfl,h⟩
 .cases h
def jG (h:lX [] keys=true):keys=[]:=by
 cases keys with
 |nil=>rfl
 |cons a r=>cases(show false=true from h)
def n6:∀ {ks:List Str}{keys:List (Option Expr)},lX ks keys=true->keys.length=ks.length
 | [],keys,h=>by rw[jG h];rfl
 |k::ks,keys,h=>by
  obtain⟨j,p,r,rfl,h2⟩:=gW h;rw[length_cons,length_cons,n6 h2]
def pB:∀ {ks:List Str}{keys:List (Option Expr)},lX ks keys=true->keys.all (·.isSome)=true
 | [],keys,h=>by rw[jG h];rfl
 |k::ks,keys,h=>by
  obtain⟨j,p,r,rfl,h2⟩:=gW h;rw[all_cons,pB h2]
  rfl
def wZ {S:Sn}:∀ {x:fw}{e:List Expr},i6 S x e=true->e.length=x.len
 | .nil,[],_=>rfl
 | .nil,_::_,h=>by cases(show false=true from h)
 | .cons x xs,[],h=>by cases(show false=true from h)
 | .cons x xs,e::es,h=>by
  have h:(mE S x e&&notStar e&&i6 S xs es)=true:=h;simp only[mo]at h;exact congrArg Nat.succ (wZ h.2)
mutual
theorem sE:∀ (x:Ex){X:Cx}{S:Sn}{E:St->XK},Gd X G S k E->∀ {e:Expr},mE S x e=true->PE X e (λU H Q=>wE G x U H Q (E U))
 | .v i,X,S,E,g,e,h=>by
  sleep 1
  simp only[mo,decide_eq_true_eq]at h;obtain⟨h1,h2⟩:=h;obtain⟨v1,v2,v3⟩:=g.DF h2;refine PE.imp (D7 (i:=i) (by rw[g.N];exact h1) v1 v2 v3) λU H Q q=>?_
  conv at q=>whnf
  split at q
  .rename_i e;exact⟨_,e,q⟩
  .exact q.elim
 | .int i,X,S,E,g,e,h=>by
  sleep 2
  simp only[decide_eq_true_eq]at h;subst h;exact CL
 | .bl i,X,S,E,g,e,h=>by
  sleep 2
  simp only[decide_eq_true_eq]at h;subst h;exact Gw
 | .non,X,S,E,g,e,h=>by
  sleep 2
  exact Dw
 | .str i,X,S,E,g,e,h=>by
  sleep 2
  simp only[decide_eq_true_eq]at h;subst h;exact vk
 | .gl x,X,S,E,g,e,h=>by
  sleep 1
  simp only[mo,decide_eq_true_eq]at h;obtain⟨rfl,h2⟩:=h;obtain⟨hg,hd⟩:=g.glob h2;intro Y s U H Q I q
  conv at q=>whnf
  split at q
  .rename_i v e;obtain⟨u,hm,r⟩:=g.tab.gl _ v e;exact mf hg hm r hd Y s U H Q I q
  .exact q.elim
 | .bin op a b,X,S,E,g,e,h=>by
  sleep 1
  simp only[mo,decide_eq_true_eq]at h;obtain⟨⟨rfl,ha⟩,hb⟩:=h;exact Gr (g.bin op) (sE a g ha) (sE b g hb)
 | .neg a,X,S,E,g,e,h=>by
  sleep 2
  exact FT zf (sE a g h)
 | .not a,X,S,E,g,e,h=>by
  sleep 2
  refine PE.imp (Cu (PE.cn (sE a g h))) λU H Q q=>⟨_,q,λx H1 z=>?_⟩
  split at z
  .exact⟨_,rfl,z⟩
  .exact z.elim
 | .and a b,X,S,E,g,e,h=>by
  sleep 3
  simp only[mo]at h;refine PE.imp (Ek (PE.cn (sE a g h.1)) (xm (sE b g h.2))) λU H Q q=>⟨_,q,λx H1 z=>?_⟩
  split at z
  .rw[cX]at z;exact⟨_,rfl,z⟩
  .exact z.elim
 | .or a b,X,S,E,g,e,h=>by
  sleep 3
  simp only[mo]at h;refine PE.imp (GQ (PE.cn (sE a g h.1)) (vz (sE b g h.2))) λU H Q q=>⟨_,q,λx H1 z=>?_⟩
  split at z
  .rw[cX]at z;exact⟨_,rfl,z⟩
  .exact z.elim
 | .cmp op a b,X,S,E,g,e,h=>by
  sleep 3
  simp only[mo,decide_eq_true_eq]at h;obtain⟨⟨⟨rfl,ha⟩,hb⟩,hn⟩:=h;exact zm (g.cmp op) (sE a g ha) (sE b g hb) (dJ hn _)
 | .cmp2 o1 o2 a b c,X,S,E,g,e,h=>by
  sleep 3
  simp only[mo,decide_eq_true_eq]at h;obtain⟨⟨⟨⟨⟨rfl,rfl⟩,ha⟩,hb⟩,hc⟩,hn⟩:=h;refine PE.imp (wu (cz.cn (g.cmp o1)) (g.cmp o2) (PE.cn (sE a g ha)) (PE.cn (sE b g hb)) (sE c g hc) (jM hn)) λU H Q q=>⟨_,q,λx H1 q1=>⟨_,q1,λy H2 q2=>⟨_,q2,λz H3 q3=>?_⟩⟩⟩
  split at q3
  .rw[cX]at q3;exact⟨_,rfl,q3⟩
  .exact q3.elim
 | .cmp3 o1 o2 o3 a b c d,X,S,E,g,e,h=>by cases(show false=true from h)
 | .ife c a b,X,S,E,g,e,h=>by
  sleep 1
  simp only[mo]at h;exact PE.imp (vP (PT.cn (sT c g h.1.1)) (sE a g h.1.2) (sE b g h.2)) λU H Q q=>⟨_,q,λk H1 z=>by rwa [cX]at z⟩
 | .tup es,X,S,E,g,e,h=>by
  sleep 1
  refine PE.imp (wY (PA.cn (uX es g h))) λU H Q q=>⟨_,q,λx H1 z=>by unfold mG at z;exact⟨f6 (by have:=z.1;omega),z.2⟩⟩
 | .lst es,X,S,E,g,e,h=>by
  sleep 1
  refine PE.imp (CM (PA.cn (uX es g h))) λU H Q q=>⟨_,q,λx H1 z=>by unfold A0 at z;exact⟨f6 (by have:=z.1;omega),z.2⟩⟩
 | .ix a i,X,S,E,g,e,h=>by
  sleep 1
  simp only[mo]at h;have hr:EG X (tf G.R.K):=g.hK▸qq g.un;exact GV hr (sE a g h.1.1) (sE i g h.1.2) (qE h.2)
 | .sl a lo hi,X,S,E,g,e,h=>by
  sleep 3
  simp only[mo]at h;have hr:EO X (sG G.R.K):=g.hK▸CO;exact xR hr (sE a g h.1.1) (sO lo g h.1.2) (sO hi g h.2)
 | .fld a f,X,S,E,g,e,h=>by
  sleep 1
  simp only[mo,decide_eq_true_eq]at h;obtain⟨⟨ha,rfl⟩,hn⟩:=h;intro Y s U H Q I q;have q':wE G a U H (λx H1=>kq G f x H1 Q) (E U):=q;refine yr (aZ hn _ _ _) (aC (sE a g ha Y s U H _ I q') λu s1 ⟨x,H1,I1,rx,qf⟩=>?_);unfold kq at qf;obtain⟨a,i,fs,v,ex,ea,hna,l,q⟩:=qf;subst ex;obtain rfl:u=Value.ref a:=rx;have n:=g.tab.na i f hna;rcases ea with⟨ho,dx,ea⟩|⟨ho,dx,fr,ea⟩
  .exact jn I1 ea (g.tab.oc i ho).1 n l λu' s' J rv=>⟨v,H1,J,rv,q⟩
  .exact kB I1 ea (g.tab.xc i ho).1 n l λu' s' J rv=>⟨v,H1,J,rv,q⟩
 | .call f es,X,S,E,g,e,h=>by
  sleep 3
  rename_i es' pos _ xn p1 _;simp only[mo,decide_eq_true_eq]at h;obtain⟨⟨h1,h2⟩,h3⟩:=h;obtain⟨hg,hdb⟩:=g.glob h1;obtain⟨hm,hk,d,hd⟩:=g.tab.gfn _ _ (g.hT▸h2);obtain⟨fd,F,B⟩:=(g.fns f d hd).fact;obtain⟨ds,hb,hv⟩:∃ ds,Binds X.K fd d.ps ds/\Vals (dflt G f es.len) ds:=by
   unfold dflt;rw[hd];exact B _
  intro Y s U H Q I q;obtain⟨hc,q⟩:=(show G.cm=true/\wEs G es U H (λvs H1=>G.Ψ f (vs++dflt G f es.len) H1 Q (E U)) (E U) from q);have hr:bp k X.A:=(g.room hc).mono (Nat.le_succ _);cases es' with
  |nil=>
   cases es with
   |nil=>exact wq F hr hg hm hk hb hv g.pass hdb Y s U H Q I q
   |cons _ _=>cases(show false=true from h3)
  |cons e0 er=>
   have PAs:=uX es g h3;obtain⟨ns,x0,xr,rfl,h4⟩:=a8 h3;exact zk F hr hg hm hk hb hv g.pass PAs hdb (af ns) (aQ h4 _ _) Y s U H Q I q
 | .meth a m es,X,S,E,g,e,h=>by
  sleep 3
  rename_i es' pos _ a' m' apos _;simp only[mo,decide_eq_true_eq]at h;obtain⟨⟨⟨⟨⟨ha,rfl⟩,h3⟩,h4⟩,h5⟩,h6⟩:=h;intro Y s U H Q I q;obtain⟨hc,q⟩:=(show G.cm=true/\_ from q);refine xT (n:=es.len+1) g hc (sE a g ha) (uX es g h3) (λz U H R hr=>?_) (λe r z=>?_) (λe r z=>?_) (kX h4 (qW h3 h6 _ _) h5) Y s U H Q I q
  .subst z;cases es with
   |nil=>exact hr
   |cons _ _=>cases(show false=true from h3)
  .subst z;exact af (a8 h3).1
  .subst z;have PAs:=uX es g h3;obtain⟨ns,x0,xr,rfl,h4⟩:=a8 h3;exact aQ h4 _ _
 | .lm m a es,X,S,E,g,e,h=>by
  sleep 3
  rename_i es' pos _ a' m' apos _;simp only[mo,decide_eq_true_eq]at h;obtain⟨⟨⟨⟨⟨ha,rfl⟩,h3⟩,h4⟩,h5⟩,h6⟩:=h;cases es' with
  |nil=>
   cases es with
   |nil=>exact PE.imp (CY PySem.F.plainAttrs_list (sq m) (BH m) (Bl m) (PE.cn (sE a g ha)) (aZ h4 _ _ _) h5) λU H Q q=>⟨_,q,λx H1 z=>by
     obtain⟨p,xs0,ex,hp,q⟩:=z;subst ex;obtain⟨xs,h1,h2⟩:=q;exact⟨.inl ⟨rfl,xs0,aP.of hp⟩,p,xs,rfl,h1,h2⟩⟩
   |cons _ _=>cases(show false=true from h3)
  |cons e0 er=>
   have PAs:=uX es g h3;obtain⟨ns,x0,xr,rfl,h7⟩:=a8 h3;exact PE.imp (Bm PySem.F.plainAttrs_list (sq m) (BH m) (Bl m) (PE.cn (sE a g ha)) (PA.cn PAs) (aZ h4 _ _ _) (vY h3 h6 _ _) h5 (af ns) (aQ h7 _ _)) λU H Q q=>⟨_,q,λx H1 z=>by
     obtain⟨p,xs0,ex,hp,q⟩:=z;subst ex;exact⟨.inl ⟨rfl,xs0,aP.of hp⟩,_,q,λvs H2 ⟨xs,h1,h2⟩=>⟨p,xs,rfl,h1,h2⟩⟩⟩
 | .dget a k d,X,S,E,g,e,h=>by cases(show false=true from h)
 | .rev a b,X,S,E,g,e,h=>by cases(show false=true from h)
 | .dupd a b,X,S,E,g,e,h=>by
  sleep 4
  simp only[mo,decide_eq_true_eq]at h;obtain⟨⟨⟨⟨⟨ha,rfl⟩,h3⟩,n1⟩,h4⟩,h5⟩:=h;exact PE.imp (DW (PE.cn (sE a g ha)) (ke (PE.cn (sE b g h3)) dH n1) (aZ h4 _ _ _) (rH h3 n1 _ _) h5 (af n1)) λU H Q q=>⟨_,q,λx H1 z=>by
   obtain⟨p,kvs0,ex,hp,q⟩:=z;exact⟨p,kvs0,ex,hp,_,q,λy H2 z=>by
    unfold Bi at z;obtain⟨kvs,more,b,ey,hab,e2,eb,hl,q⟩:=z;exact⟨kvs,more,b,by rw[ey],hab,e2,eb,hl,q⟩⟩⟩
 | .lix a b,X,S,E,g,e,h=>by cases(show false=true from h)
 | .make c es,X,S,E,g,e,h=>by
  sleep 3
  rename_i es' pos _ xn p1 _;simp only[mo,decide_eq_true_eq]at h;obtain⟨⟨h1,h2⟩,h3⟩:=h;obtain⟨hg,hdb⟩:=g.glob h1;have hm:=g.tab.gcl _ _ (g.hT▸h2);intro Y s U H Q I q
  conv at q=>whnf
  obtain⟨hc,q⟩:=q
  split at q
  .obtain⟨h0,q⟩:=q;cases es' with
   |nil=>
    cases es with
    |nil=>exact absurd q.1 (by decide)
    |cons _ _=>cases(show false=true from h3)
   |cons e0 er=>
    have PAs:=uX es g h3;obtain⟨ns,x0,xr,rfl,h4⟩:=a8 h3;exact wD (g.tab.ini0 c h0) hg hm PAs hdb (af ns) (aQ h4 _ _) Y s U H Q I q
  .rename_i f hf;obtain⟨⟨d,hd⟩,hmk⟩:=g.tab.ini c f hf;obtain⟨fd,F,B⟩:=(g.fns f d hd).fact;obtain⟨ds,hb,hv⟩:∃ ds,Binds X.K fd d.ps ds/\Vals (dflt G f (es.len+1)) ds:=by
    unfold dflt;rw[hd];exact B _
   have hr:=g.room hc
   split at q
   .rename_i hx;rw[if_pos hx]at hmk;cases es' with
    |nil=>
     cases es with
     |nil=>exact ud hmk F hr hg hm hb hv g.pass hdb Y s U H Q I q
     |cons _ _=>cases(show false=true from h3)
    |cons e0 er=>
     have PAs:=uX es g h3;obtain⟨ns,x0,xr,rfl,h4⟩:=a8 h3;exact vU hmk F hr hg hm hb hv g.pass PAs hdb (af ns) (aQ h4 _ _) Y s U H Q I q
   .rename_i hx;rw[if_neg hx]at hmk;cases es' with
    |nil=>
     cases es with
     |nil=>exact xE hmk F hr hg hm hb hv g.pass hdb Y s U H Q I q
     |cons _ _=>cases(show false=true from h3)
    |cons e0 er=>
     have PAs:=uX es g h3;obtain⟨ns,x0,xr,rfl,h4⟩:=a8 h3;exact yN hmk F hr hg hm hb hv g.pass PAs hdb (af ns) (aQ h4 _ _) Y s U H Q I q
 | .bini es,X,S,E,g,e,h=>by
  sleep 4
  rename_i es' pos _ mm p2 _ xn p1 _;simp only[mo,decide_eq_true_eq]at h;obtain⟨⟨⟨⟨⟨h1,rfl⟩,h2⟩,h3⟩,h4⟩,h5⟩:=h;obtain⟨hg,hdb⟩:=g.glob h1;obtain⟨B,hm,hB⟩:=g.tab.gbi _ (g.hT▸h2);cases es' with
  |nil=>
   cases es with
   |nil=>cases h4
   |cons _ _=>cases(show false=true from h3)
  |cons e0 er=>
   have PAs:=uX es g h3;obtain⟨ns,x0,xr,rfl,h7⟩:=a8 h3;refine PE.imp (Dd hB hg hm (PA.cn PAs) hdb (af ns) (aQ h7 _ _) (kX (o:=.Name _ _) rfl (qW h3 (by rw[h4];decide) _ _) h5)) λU H Q q=>⟨_,q,λvs H1 z=>?_⟩
   obtain⟨a,i,dx,fs,fr,v,ev,ea,hi,q⟩:=z;exact⟨a,_,dx,fs,fr,v,ev,ea,(g.tab.xc i hi).1,q⟩
 | .cini c es,X,S,E,g,e,h=>by cases(show false=true from h)
 | .bf b es,X,S,E,g,e,h=>by
  sleep 3
  rename_i es' pos _ xn p1 _;simp only[mo,decide_eq_true_eq]at h;obtain⟨⟨⟨⟨h1,rfl⟩,h2⟩,h3⟩,h4⟩:=h;obtain⟨hg,hdb⟩:=g.glob h1;obtain⟨hm,hn⟩:=g.tab.gbl _ (g.hT▸h2);cases es' with
  |nil=>
   cases es with
   |nil=>exact absurd h4 (by decide)
   |cons _ _=>cases(show false=true from h3)
  |cons e0 er=>
   have PAs:=uX es g h3;obtain⟨ns,x0,xr,rfl,h7⟩:=a8 h3;have hb:=Ab b;have hk:=G2 g b;have key:∀ {v:Value},vc b=v->(∃ i,v=.builtin i)\/(∃ i,v=.type i):=by
    intro v hv;subst hv;cases b<;>first|exact .inl ⟨_,rfl⟩|exact .inr ⟨_,rfl⟩
   rcases key rfl with⟨i,hi⟩|⟨i,hi⟩
   .rw[hi]at hb hk;exact j0 hk hg hm hb PAs hn hdb (af ns) (aQ h7 _ _)
   .rw[hi]at hb hk;exact tJ hk hg hm hb PAs hn hdb (af ns) (aQ h7 _ _)
 | .isi a c,X,S,E,g,e,h=>by
  sleep 4
  rename_i pos _ xn p1 _ _ a' c';simp only[mo,decide_eq_true_eq]at h;obtain⟨⟨⟨⟨h1,rfl⟩,h2⟩,h3⟩,h4⟩:=h;obtain⟨hg,hdb⟩:=g.glob h1;obtain⟨hm,hn⟩:=g.tab.gbl _ (g.hT▸h2);have n1:notStar a'=true:=by
   cases a'<;>first|rfl|(cases a<;>cases(show false=true from h3))
  have n2:notStar c'=true:=by
   cases c'<;>first|rfl|(cases c<;>simp[zr]at h4)
  refine PE.imp (j0 (Dy g c) hg hm xI (ke (PE.cn (sE a g h3)) (ke (G5 g h4) dH n2) n1) hn hdb (af n1) ?_) λU H Q q=>⟨_,q,λx H1 z=>⟨x,rfl,z⟩⟩
  rw[af n2]
  rfl
 | .lc elt sel it,X,S,E,g,e,h=>by
  sleep 2
  split at h
  iterate 3 (split at h;rotate_left;cases h)
  simp only[mo]at h;obtain⟨⟨⟨h1,h2⟩,h3⟩,h4⟩:=h;intro Y s U H Q I q;obtain⟨hc,q⟩:=(show G.cm=true/\wI G it U H (λJ H1=>xO (λσ' H' Q'=>wE G elt σ' H' Q' (E U)) J (none::fU U sel) H1 Q) (E U) from q);rw[yj]at q;obtain⟨cl,C⟩:=bQ g I.ok h1;exact vj (g.cm hc) (g.cx hc U) C (sI it g h2) (λs H fp=>sE elt (g.comp C (E U) s H fp) h3) (bt h4 _) Y s H Q I q
 | .lci elt c sel it,X,S,E,g,e,h=>by
  sleep 2
  split at h
  iterate 3 (split at h;rotate_left;cases h)
  simp only[mo]at h;obtain⟨⟨⟨⟨h1,h2⟩,h3⟩,h5⟩,h4⟩:=h;intro Y s U H Q I q;obtain⟨hc,q⟩:=(show G.cm=true/\wI G it U H (λJ H1=>BB (λσ' H' Q'=>wT G c σ' H' Q' (E U)) (λσ' H' Q'=>wE G elt σ' H' Q' (E U)) J (none::fU U sel) H1 Q) (E U) from q);rw[xw]at q;obtain⟨cl,C⟩:=bQ g I.ok h1;exact lj (g.cm hc) (g.cx hc U) C (sI it g h2) (λs H fp=>lQ C) (λs H fp=>rQ (sT c (g.comp C (E U) s H fp) h5)) (λs H fp=>sE elt (g.comp C (E U) s H fp) h3) (bt h4 _) Y s H Q I q
 | .lct elt n sel it,X,S,E,g,e,h=>by cases(show false=true from h)
 | .lcu elt c n sel it,X,S,E,g,e,h=>by cases(show false=true from h)
 | .dnew,X,S,E,g,e,h=>by
  sleep 3
  refine PE.imp v8 λU H Q q=>?_
  have q':newD H Q:=q;unfold newD at q';exact q'
 | .sm m a b,X,S,E,g,e,h=>by
  sleep 4
  simp only[mo,decide_eq_true_eq]at h;obtain⟨⟨⟨⟨⟨ha,rfl⟩,hb⟩,hn⟩,h4⟩,h5⟩:=h;exact PE.imp (Bm PySem.F.plainAttrs_str (A5 m) (Fe m) (Fd m) (PE.cn (sE a g ha)) (ke (PE.cn (sE b g hb)) dH hn) (aZ h4 _ _ _) (rH hb hn _ _) h5 (af hn) rfl) λU H Q q=>⟨_,q,λx H1 z=>by
   obtain⟨z,rfl,q⟩:=z;exact⟨rfl,_,q,λy H2 q=>⟨z,y,rfl,rfl,g.hK▸q⟩⟩⟩
 | .up a,X,S,E,g,e,h=>by cases(show false=true from h)
 | .isiT a cs,X,S,E,g,e,h=>by
  sleep 5
  rename_i pos _ xn p1 _ _ a' _ es' kk pos2;simp only[mo,decide_eq_true_eq]at h;obtain⟨⟨⟨⟨⟨h1,rfl⟩,h2⟩,h3⟩,h4⟩,h5⟩:=h;obtain⟨hg,hdb⟩:=g.glob h1;obtain⟨hm,hn⟩:=g.tab.gbl _ (g.hT▸h2);have n1:notStar a'=true:=by
   cases a'<;>first|rfl|(cases a<;>cases(show false=true from h3))
  refine PE.imp (j0 (yw g cs) hg hm xI (ke (PE.cn (sE a g h3)) (ke (wY (x8 g h4)) dH rfl) n1) hn hdb (af n1) ?_) λU H Q q=>⟨_,q,λx H1 z=>⟨?_,λp hp=>⟨x,p,rfl,?_,z p hp⟩⟩⟩
  .rw[af (show notStar (.Tuple es' kk pos2)=true from rfl)]
   rfl
  .exact f6 (by rw[cr];omega)
  .rw[ar,List.map_map]
   rfl
 | .mk0 c,X,S,E,g,e,h=>by
  sleep 4
  simp only[mo,decide_eq_true_eq]at h;obtain⟨⟨h1,h2⟩,h3⟩:=h;obtain⟨hg,hdb⟩:=g.glob h1;refine PE.imp (wt (g.tab.inip c (g.hT▸h3)) hg (g.tab.gcl _ _ (g.hT▸h2)) hdb) λU H Q q=>?_
  have q':t6 (G.R.cad c) H Q:=q;unfold t6 at q';exact q'
 | .vals tp a,X,S,E,g,e,h=>by cases(show false=true from h)
 | .disp ks es,X,S,E,g,e,h=>by
  sleep 1
  simp only[mo,decide_eq_true_eq]at h;obtain⟨⟨⟨⟨h1,h2⟩,h3⟩,h4⟩,h5⟩:=h;intro Y s U H Q I q;have hk:=n6 h1;have hv:=wZ h2;refine A8 (Jo es g h1 h2 h3) (pB h1) nofun (λz=>by rw[z]at hk;simp at hk;omega) nofun Y s U H Q I λp hp=>?_
  refine⟨_,q p hp,λxs H2 hl z=>?_⟩;unfold so at z;exact⟨z.1,DL ks xs,u6,by have:=qU (ks:=ks) (xs:=xs);omega,z.2⟩
 | .dzip a b,X,S,E,g,e,h=>by cases(show false=true from h)
termination_by structural x=>x
theorem sI:∀ (x:Bx){X:Cx}{S:Sn}{E:St->XK},Gd X G S k E->∀ {t e:Expr},mI S x t e=true->PI X t e (λU H R=>wI G x U H R (E U))
 | .rng1 a,X,S,E,g,t,e,h=>by
  sleep 4
  simp only[mo,decide_eq_true_eq]at h;obtain⟨⟨⟨⟨h1,rfl⟩,h2⟩,h3⟩,n1⟩:=h;obtain⟨hg,hdb⟩:=g.glob h1;obtain⟨hm,hn⟩:=g.tab.gbl _ (g.hT▸h2);intro Y s U H R I q;refine uN hg hm (ke (PE.cn (sE a g h3)) dH n1) (af n1) Y s U H R I ⟨_,q,λx H1 z=>?_⟩
  split at z
  .exact⟨_,rfl,z.1,z.2.1,z.2.2⟩
  .exact z.elim
 | .rng2 a b,X,S,E,g,t,e,h=>by cases(show false=true from h)
 | .rng3 a b c,X,S,E,g,t,e,h=>by cases(show false=true from h)
 | .enm a,X,S,E,g,t,e,h=>by
  sleep 4
  simp only[mo,decide_eq_true_eq]at h;obtain⟨⟨⟨⟨⟨h1,rfl⟩,h2⟩,h3⟩,n1⟩,h5⟩:=h;obtain⟨hg,hdb⟩:=g.glob h1;obtain⟨hm,hn⟩:=g.tab.gbl _ (g.hT▸h2)
  split at h5
  .intro Y s U H R I q;refine zL hg hm (ke (PE.cn (sE a g h3)) dH n1) (af n1) Y s U H R I ⟨_,q,λx H1 z=>?_⟩
   split at z
   .unfold Bg at z;exact⟨_,rfl,z.1,z.2⟩
   .exact z.elim
  .cases h5
 | .enf a,X,S,E,g,t,e,h=>by cases(show false=true from h)
 | .seq a,X,S,E,g,t,e,h=>by
  conv at h=>lhs;whnf
  intro Y s U H R I q;have q':wE G a U H (λx H1=>match x with| .ref p=>qc G.R.K p H1 R| .str z=>R (B2 z) H1|_=>False) (E U):=q;rw[g.hK]at q';refine aC (sE a g h Y s U H _ I q') λv s1 ⟨x,H1,I1,r1,z⟩=>?_
  dsimp only at z
  split at z
  .unfold qc at z;rcases z with⟨⟨xs,hx⟩,z⟩|⟨⟨xs,hx⟩,z⟩|z
   .exact uF I1 r1 hx z
   .exact vL I1 r1 hx z
   .exact z.elim
  .exact wx I1 r1 z
  .exact z.elim
 | .zip a b,X,S,E,g,t,e,h=>by cases(show false=true from h)
 | .zip3 a b c,X,S,E,g,t,e,h=>by cases(show false=true from h)
termination_by structural x=>x
theorem sO:∀ (x:Hh){X:Cx}{S:Sn}{E:St->XK},Gd X G S k E->∀ {e:Option Expr},mO S x e=true->PO X e (λU H Q=>wO G x U H Q (E U))
 | .no,X,S,E,g,none,h=>A7
 | .no,X,S,E,g,some _,h=>by cases(show false=true from h)
 | .yes x,X,S,E,g,none,h=>by cases(show false=true from h)
 | .yes x,X,S,E,g,some e,h=>by
  conv at h=>lhs;whnf
  intro Y s U H Q I q;refine zq (PE.cn (sE x g h)) Y s U H Q I ⟨_,q,λy H1 z=>?_⟩
  split at z
  .exact⟨_,rfl,z⟩
  .exact z.elim
termination_by structural x=>x
theorem sT:∀ (x:Tx){X:Cx}{S:Sn}{E:St->XK},Gd X G S k E->∀ {e:Expr},mT S x e=true->PT X e (λU H Q=>wT G x U H Q (E U))
 | .not a,X,S,E,g,e,h=>by
  sleep 2
  exact Cq (sT a g h)
 | .and a b,X,S,E,g,e,h=>by
  sleep 3
  simp only[mo]at h;exact PT.imp (Eb (PT.cn (sT a g h.1)) (ye (sT b g h.2))).pt λU H Q q=>⟨_,q,λk H1 z=>by rwa [cX]at z⟩
 | .or a b,X,S,E,g,e,h=>by
  sleep 3
  simp only[mo]at h;exact PT.imp (FG (PT.cn (sT a g h.1)) (xx (sT b g h.2))).pt λU H Q q=>⟨_,q,λk H1 z=>by rwa [cX]at z⟩
 | .cmp op a b,X,S,E,g,e,h=>by
  sleep 3
  simp only[mo,decide_eq_true_eq]at h;obtain⟨⟨⟨rfl,ha⟩,hb⟩,hn⟩:=h;refine PT.imp (yv (cz.cn (g.cmp op)) (PE.cn (sE a g ha)) (PE.cn (sE b g hb)) (dJ hn _)) λU H Q q=>⟨_,q,λx H1 q1=>⟨_,q1,λy H2 q2=>⟨_,q2,λz H3 q3=>?_⟩⟩⟩
  split at q3
  .exact⟨_,rfl,q3⟩
  .exact q3.elim
 | .cmp2 o1 o2 a b c,X,S,E,g,e,h=>by
  sleep 3
  simp only[mo,decide_eq_true_eq]at h;obtain⟨⟨⟨⟨⟨rfl,rfl⟩,ha⟩,hb⟩,hc⟩,hn⟩:=h;refine PT.imp (wk (cz.cn (g.cmp o1)) (cz.cn (g.cmp o2)) (PE.cn (sE a g ha)) (PE.cn (sE b g hb)) (PE.cn (sE c g hc)) (jM hn)) λU H Q q=>⟨_,q,λx H1 q1=>⟨_,q1,λy H2 q2=>⟨_,q2,λz H3 q3=>?_⟩⟩⟩
  split at q3
  .refine⟨_,rfl,?_⟩;rw[cX]at q3
   split at q3
   .rename_i hk;rw[if_pos hk];refine⟨_,q3,λw H4 q4=>⟨_,q4,λz H5 q5=>?_⟩⟩
    split at q5
    .exact⟨_,rfl,q5⟩
    .exact q5.elim
   .rename_i hk;rw[if_neg hk];exact⟨_,rfl,q3⟩
  .exact q3.elim
 | .val x,X,S,E,g,e,h=>by
  have h:(mE S x e&&plainT e)=true:=h;simp only[mo]at h;refine PT.imp (vK (PE.cn (sE x g h.1)) (plainT_ok h.2 _)) λU H Q q=>⟨_,q,λy H1 z=>?_⟩
  exact g.hK▸Es z
termination_by structural x=>x
theorem Jo:∀ (x:fw){X:Cx}{S:Sn}{E:St->XK},Gd X G S k E->∀ {ks:List Str}{keys:List (Option Expr)}{e:List Expr}{pos:Pos},lX ks keys=true->i6 S x e=true->x.len=ks.length->PQ X pos keys e (λU H R=>∃ Q,wEs G x U H Q (E U)/\∀ xs H1,xs.length=x.len->Q xs H1->R (Hj ks xs) H1)
 | .nil,X,S,E,g,ks,keys,[],pos,h1,h,hl=>by
  obtain rfl:ks=[]:=List.eq_nil_of_length_eq_zero hl.symm;rw[jG h1];exact λY s U H R I ⟨Q,q,i⟩=>DN Y s U H R I (i [] H rfl q)
 | .nil,X,S,E,g,_,_,_::_,pos,h1,h,hl=>by cases(show false=true from h)
 | .cons x xs,X,S,E,g,_,_,[],pos,h1,h,hl=>by cases(show false=true from h)
 | .cons x xs,X,S,E,g,[],keys,e::es,pos,h1,h,hl=>by cases hl
 | .cons x xs,X,S,E,g,c::ks,keys,e::es,pos,h1,h,hl=>by
  have h:(mE S x e&&notStar e&&i6 S xs es)=true:=h;simp only[mo]at h;obtain⟨j,p,r,rfl,h2⟩:=gW h1;intro Y s U H R I ⟨Q,q,i⟩;refine zQ vk (PE.cn (sE x g h.1.1)) (Jo xs g h2 h.2 (Nat.succ.inj hl)) Y s U H R I ?_;exact⟨_,q,λy H2 z=>⟨_,z,λys H3 hy w=>i (y::ys) H3 (congrArg Nat.succ hy) w⟩⟩
termination_by structural x=>x
theorem uX:∀ (x:fw){X:Cx}{S:Sn}{E:St->XK},Gd X G S k E->∀ {e:List Expr},i6 S x e=true->PA X e (λU H Q=>wEs G x U H Q (E U))
 | .nil,X,S,E,g,[],h=>dH
 | .nil,X,S,E,g,_::_,h=>by cases(show false=true from h)
 | .cons x xs,X,S,E,g,[],h=>by cases(show false=true from h)
 | .cons x xs,X,S,E,g,e::es,h=>by
  have h:(mE S x e&&notStar e&&i6 S xs es)=true:=h;simp only[mo]at h;exact ke (sE x g h.1.1) (uX xs g h.2) h.1.2
termination_by structural x=>x
end
end
end L3
namespace L2
open PySem PySem.Spec PyProof.Rows
variable {scope:Scope}{cl:List (Str×Addr)}{fr:List Str}{sel:List Nat}{U:St}{s:Shared}
section
variable {X:Cx}
abbrev IY (X:Cx)(U:St)(st:Stmt)(t:TS):Prop:=∀ (Y:JV) (s:Shared) (H:Hp) (D:Ends),Inv X Y U H s->t D U H->wpAny (model X.prog X.w) X.A (exec st X.env) (SP X Y D) X.xe s
def fu {elt iter tgt:Expr}{ifs:List Expr}{xs:List Str}{y:Str}{py pos spos:Pos}{wi:TI}{tg:TG}{tc:TT}{te:TE}{ni:Nat}{E:XK}(hc:X.calm=true)(hx:lh X U E)(S:a4 X scope cl xs fr sel)(hi:PI X tgt iter wi)
  (hg:∀ (s:Shared) (H:Hp) (fp:List Addr),PG (fB X scope cl (xs++fr) s H fp E) tgt tg) (ht:∀ (s:Shared) (H:Hp) (fp:List Addr),Hk (fB X scope cl (xs++fr) s H fp E) ifs tc)
  (he:∀ (s:Shared) (H:Hp) (fp:List Addr),PE (fB X scope cl (xs++fr) s H fp E) elt te) (hs:∀ x,foldedSetIterable iter X.env x=pure x) (hN:X.N.Nodup) (hni:X.N[ni]? =some y) (hy:X.env.scope.names.lookup y=some .local)
  (hsw:swapsWith (.ListComp elt [⟨tgt,iter,ifs,0⟩] scope pos) (some (.Name y py)) spos.line X.env=pure true):IY X U (.Assign [.Name y py] (.ListComp elt [⟨tgt,iter,ifs,0⟩] scope pos) spos) (λD U H=>Gf wi tg tc te xs sel U H λv H1=>D.nx (U.set ni (some v)) H1):=by
 intro Y s H DD I h;rw[exec_Assign_Name_used _ _ _ _ hsw];refine am (wpAny_standAt (am ?_));show wpAny _ _ (do let _ <-comprehension (.ListComp elt [⟨tgt,iter,ifs,0⟩] scope pos) scope X.env _ (newList []) false (eval iter X.env) (some (assign (.Name y py) X.env))) _ _ s;refine am (wpAny_mono (wpAny_comprehension_free (use:=some (assign (.Name y py) X.env)) (Q:=λ_ s'=>SP X Y DD .next s') rfl hs S.clos S.kind S.names ?_) (λ_ s' hq=>ap (ap hq)) λ_ _ e=>e);refine aC (hi Y s U H _ I h) λv s1 h1=>aC h1 λitv s2 h2=>?_
 obtain⟨it,fp,tn,J,H2,e,I2,T,qN,f2,h2⟩:=h2;subst e;refine wpAny_newObj_type ?_;have hD:H2 s2.heap.objs.size=none:=I2.hok.fresh (re _);have I3:Inv X Y U (upd H2 s2.heap.objs.size (.lst [])) { s2 with heap:=s2.heap.push { cls:=.type "list",dict:=none,data:=.seq ([]:List Value).toArray } }:=
  I2.laid (t':=s2.toks) (λb u e=>tz _ e) (re _) ⟨Nat.zero_le _,[],0,.nil,ul _ rfl⟩
 have fo2:∀ b ∈ fp,b<s2.heap.objs.size:=λb hb=>by
  obtain⟨o,ho,_⟩:=T.obj _ _ qN b hb;exact u8 ho
 have f3:∀ b ∈ fp,ip X Y (upd H2 s2.heap.objs.size (.lst [])) b:=λb hb=>⟨by rw[ag (pi (fo2 b hb))];exact(f2 b hb).1,(f2 b hb).2⟩
 have st3:tn 0 (s2.heap.push { cls:=.type "list",dict:=none,data:=.seq ([]:List Value).toArray }):=T.keep _ _ _ qN λb hb o e=>tz _ e
 have fo3:∀ b ∈ fp,b<(s2.heap.push { cls:=.type "list",dict:=none,data:=.seq ([]:List Value).toArray }).objs.size:=λb hb=>by
  rw[Heap.size_push];exact Nat.lt_succ_of_lt (fo2 b hb)
 obtain⟨W,⟨m0,w0⟩,turn⟩:=h2 _ hD;generalize s2.heap.objs.size=D at*;generalize hs3:({ s2 with heap:=s2.heap.push { cls:=.type "list",dict:=none,data:=.seq ([]:List Value).toArray } }:Shared)=s3 at*;have st3':tn 0 s3.heap:=by rw[<-hs3];exact st3
 have fo3':∀ b ∈ fp,b<s3.heap.objs.size:=by rw[<-hs3];exact fo3
 refine wpAny_newFunctionEnv S.nocell (by intro y hy;simp at hy) (λh' hns hsb=>?_) S.kind;have keep:∀ b o,s3.heap.get? b=some o->h'.get? b=some o:=λb o e=>(hsb.2 b (pi (u8 e))).trans (tz _ e)
 have I4:=pe (E:=E) (tk:=s3.toks+([]:List (Str×Value)).length) S I3 f3 fo3' hns keep;have st4:tn 0 h':=T.keep _ _ _ st3' λb hb o e=>keep b o e
 have stat:∀ {H':Hp},(∀ b ∈ fp,H' b=none)->∀ b ∈ fp,ip (fB X scope cl (xs++fr) s3 (upd H2 D (.lst [])) fp E) Y H' b:=λ{H'} hn b hb=>
  ⟨hn b hb,pi (fo3' b hb),λz=>(lw.mp (I3.hX b z)).elim (f3 b hb).2.1 (f3 b hb).2.2.1,.inl hb,λy c hy=>(f3 b hb).2.2.2.2.1 y c (S.sub y c hy),λp hp=>(f3 b hb).2.2.2.2.2 p hp⟩
 have loop:codeAny (model X.prog X.w) X.A (.compLoop (.ListComp elt [⟨tgt,iter,ifs,0⟩] scope pos) 0 (.ref it) (.ref D) (compEnvC scope cl s3.heap.objs.size X.env))
   (compPost (model X.prog X.w) X.A X.xe (some (assign (.Name y py) X.env)) (λ_ s'=>SP X Y DD .next s') (.ref D) s3.heap.objs.size) { s3 with heap:=h',toks:=s3.toks+([]:List (Str×Value)).length }:=by
  refine codeAny_loop rfl (λn s'=>∃ i σ' H',Inv (fB X scope cl (xs++fr) s3 (upd H2 D (.lst [])) fp E) Y σ' H' s'/\tn i s'.heap/\(∀ b ∈ fp,H' b=none)/\W i n σ' H') (λn s5 hI=>?_) m0 ⟨0,_,_,I4,st4,λb hb=>(f3 b hb).1,w0⟩;show wpAny _ _ ((compTurn (.ListComp elt [⟨tgt,iter,ifs,0⟩] scope pos) 0 (.ref it) (.ref D) (compEnvC scope cl s3.heap.objs.size X.env)).onRaise (λx=>do noteFrame x (compEnvC scope cl s3.heap.objs.size X.env);theTreesLotGoes x)) _ _ s5;refine wpAny_noted ?_;refine rO (ht s3 (upd H2 D (.lst [])) fp).1 ?_;have bad:=rK (scope:=scope) (cl:=cl) (xs:=xs) (fr:=fr) (P:=λ_ s'=>SP X Y DD .next s') (use:=some (assign (.Name y py) X.env)) (D:=D) hx I3 f3;obtain⟨i,σ5,H5,I5,st5,fr5,w5⟩:=hI;rcases turn i n σ5 H5 w5 with⟨stop,q⟩|⟨go,Nn,hNn,step⟩
  .refine aC (T.done (fB X scope cl (xs++fr) s3 (upd H2 D (.lst [])) fp E) rfl rfl rfl hc i _ s5 σ5 H5 _ I5 (stat fr5) st5 stop) λr s6 ⟨hr,I6⟩=>?_
   subst hr;obtain⟨m,hn,_⟩:=I6.loc;have J:Inv X Y U H5 s6:=I3.sW (ch:=fp) I6.os I6.base I6.hok I6.bare λb hb=>⟨(f3 b hb).2.2.2.1,(f3 b hb).2.1,(f3 b hb).2.2.2.2.1,(f3 b hb).2.2.2.2.2⟩
   have fC:H5 s3.heap.objs.size=none:=I6.free;have nL:s3.heap.objs.size≠X.env.locals:=Ne.symm (pi I3.lt);have nC:∀ z c,X.env.cells.lookup z=some c->c≠s3.heap.objs.size:=λz c e=>by
    obtain⟨v,o,ho,_⟩:=I3.cell z c e;exact pi (u8 ho)
   show wpAny _ _ (assign (.Name y py) X.env (.ref D)) _ _ s6;refine wpAny_assign_Name (k8 J hN hni (.inl hy) (v:=.ref D) rfl (λs7 J7 hsb=>?_) (.inr hy));obtain⟨a,sb,ha⟩:=hsb;have hne:s3.heap.objs.size≠a:=by
    rcases ha with ha|ha
    .rw[ha];exact nL
    .exact Ne.symm (nC _ _ ha)
   refine⟨m,hn.sameBut sb hne,λh'' hs''=>⟨_,H5,?_,q⟩⟩;exact J7.turned (h':=h'') (t':=s7.toks) (it:=s3.heap.objs.size) (λb o hb e=>(hs''.2 b hb).trans e) fC nL (.inr I3.sz) nC λp hp=>pi (u8 (I3.pin p hp).1)
  .have fin:∀ {σ8:St}{H10:Hp}{s10:Shared},Inv (fB X scope cl (xs++fr) s3 (upd H2 D (.lst [])) fp E) Y σ8 H10 s10/\tn (i+1) s10.heap/\(∀ b ∈ fp,H10 b=none)->Nn σ8 H10->∃ m',m'<n/\∃ i σ' H',Inv (fB X scope cl (xs++fr) s3 (upd H2 D (.lst [])) fp E) Y σ' H' s10/\tn i s10.heap/\(∀ b ∈ fp,H' b=none)/\W i m' σ' H':=λ⟨I,t,f⟩ nn=>by
    obtain⟨m',hm,w10⟩:=hNn _ _ nn;exact⟨m',hm,i+1,_,_,I,t,f,w10⟩
   refine aC (T.item (fB X scope cl (xs++fr) s3 (upd H2 D (.lst [])) fp E) rfl rfl rfl hc i _ s5 σ5 H5 _ I5 (stat fr5) st5 go) λr s6 ⟨u,hr,h6⟩=>?_
   subst hr;refine aC h6 λ_ s7 ⟨xv,H7,I7,r7,y7,st7,fr7⟩=>?_
   have I7':=I7.pinned (stat fr7) (T.obj _ _ st7);refine wpAny_mono (hg s3 _ fp _ s7 σ5 H7 xv u _ I7' r7 (step xv _ y7)) (λ_ s8 ⟨σ8,H8,I8,q8⟩=>?_) bad;refine wpAny_mono ((ht s3 _ fp).2 _ s8 σ8 H8 _ I8 q8) (λok s9 ⟨H9,I9,q9⟩=>?_) bad;have back:∀ {H10:Hp}{s10:Shared},Inv (fB X scope cl (xs++fr) s3 (upd H2 D (.lst [])) fp E) _ σ8 H10 s10->Inv (fB X scope cl (xs++fr) s3 (upd H2 D (.lst [])) fp E) Y σ8 H10 s10/\tn (i+1) s10.heap/\(∀ b ∈ fp,H10 b=none):=λ{H10 s10} I10=>⟨I10.dN,T.keep _ _ _ st7 λb hb o e=>(I10.pin (b,o) (io _ (io _ (bj hb e)))).1,λb hb=>by
    obtain⟨o,e,d⟩:=T.obj _ _ st7 b hb;exact(I10.pin (b,o) (io _ (io _ (bj hb e)))).2.1⟩
   refine⟨λek=>?_,λek=>ap ⟨rfl,fin (back I9) (q9.2 ek)⟩⟩;refine wpAny_mono (he s3 _ fp _ s9 _ _ _ I9 (q9.1 ek)) (λuv s10 ⟨vv,H10,I10,r10,zs,hz,hzl,n10⟩=>?_) bad;refine wpAny_mono (gM (X:=fB X scope cl (xs++fr) s3 (upd H2 D (.lst [])) fp E) _ s10 _ H10 (.ref D) [vv] (.ref D) [uv] (λ_ H'=>H'=upd H10 D (.lst (zs++[vv]))) I10 rfl (.cons r10 .nil) ⟨D,zs,vv,rfl,rfl,hz,hzl,rfl⟩) (λ_ s11 ⟨_,H11,I11,_,e11⟩=>?_) bad;subst e11;exact ap ⟨rfl,fin (back I11) n10⟩
 exact codeAny_compStart_list loop (T.self _ 0 _ _ _ st4 loop)
def tU {elt iter:Expr}{x y:Str}{px py pos spos:Pos}{wi:TI}{te:TE}{ni:Nat}{E:XK}(hc:X.calm=true)(hx:lh X U E)(S:a4 X scope cl [x] fr sel)(hi:PI X (.Name x px) iter wi)
  (he:∀ (s:Shared) (H:Hp) (fp:List Addr),PE (fB X scope cl (x::fr) s H fp E) elt te) (hs:∀ x,foldedSetIterable iter X.env x=pure x) (hN:X.N.Nodup) (hni:X.N[ni]? =some y) (hy:X.env.scope.names.lookup y=some .local)
  (hsw:swapsWith (.ListComp elt [⟨.Name x px,iter,[],0⟩] scope pos) (some (.Name y py)) spos.line X.env=pure true):IY X U (.Assign [.Name y py] (.ListComp elt [⟨.Name x px,iter,[],0⟩] scope pos) spos) (λD U H=>IV wi te sel U H λv H1=>D.nx (U.set ni (some v)) H1):=λY s H D I h=>
 fu hc hx S hi.up (λs H fp=>lQ S) (λ_ _ _=>lS) he hs hN hni hy hsw Y s H D I ⟨_,h,λ_ _ q=>q.g⟩
section
variable {prog:Program}{w:World}{A:Around}{E:JU}
def kQ {it t:Addr}{items:Array Value}(hne:t≠it):∀ (n i:Nat) (s:Shared) (Q:List Value->Shared->Prop),s.heap.IsListIter it t i->s.heap.IsList t items->i+n<=items.size->
  (∀ h',h'.IsListIter it t (i+n)->Heap.SameBut it s.heap h'->Q ((items.toList.drop i).take n) { s with heap:=h' })->wpAny (model prog w) A (draw (.ref it) n) Q E s
 |0,i,s,Q,hit,_,_,hQ=>by
  show wpAny _ _ (pure []) Q E s;exact ap (by simpa using hQ s.heap hit (Heap.SameBut.refl ..))
 |n+1,i,s,Q,hit,ht,hle,hQ=>by
  have hlt:i<items.size:=by omega
  show wpAny _ _ (pyNext (.ref it) >>= _) Q E s;refine am (wpAny_pyNext_list_item hit ht (x:=items[i]) (by simp[hlt]) λh₁ hit₁ hs₁=>?_);refine am (bi (kQ hne n (i+1) _ _ hit₁ (ht.extBut hs₁.extBut hne) nofun λh₂ hit₂ hs₂=>ap ?_));have hd:items.toList.drop i=items[i]::items.toList.drop (i+1):=by simp[drop_eq_getElem_cons,hlt]
  have:=hQ h₂ (by rw[show i+(n+1)=i+1+n by omega];exact hit₂) (hs₁.trans hs₂);rw[hd,List.take_succ_cons]at this;exact this
def ic {t:Addr}{items:Array Value}{Q:List Value->Shared->Prop}(hh:A.handled=none)(ht:s.heap.IsList t items)(hty:s.TypeIs (.ref t) "list")
  (hQ:∀ h',Heap.ExtBut s.heap.objs.size s.heap h'->Q items.toList { s with heap:=h' }):wpAny (model prog w) A (unpackItems (.ref t) items.size none) Q E s:=by
 have hlt:t≠s.heap.objs.size:=by obtain⟨o,ho,_⟩:=id ht;exact pi (u8 ho)
 unfold unpackItems;refine am ?_
 .unfold notIterableAtAll;refine am (wpAny_specialOf hty PySem.F.slot_list_iter.lookup ?_);refine ap ?_;simp only[Bool.false_eq_true,if_false];refine am (bi (wpAny_pyIter_list ht ?_));refine am (bi (kQ hlt items.size 0 _ _ ⟨_,ul _ rfl,rfl,rfl⟩ (ht.push _) nofun λh₁ hit₁ hs₁=>?_));have hall:List.take items.size (List.drop 0 items.toList)=items.toList:=by
   rw[drop_zero];exact take_of_length_le (by simp)
  rw[hall];rw[if_neg (by simp)];have ht₁:h₁.IsList t items:=(ht.push _).extBut hs₁.extBut hlt;refine am (bi (wpAny_pyNext_list_end hh hit₁ ht₁ (by simp) λh₂ he₂=>?_));simp only[Option.isSome_none,Bool.false_eq_true,if_false];refine ap (hQ h₂ λb o hb e=>he₂ b o hb (hs₁.extBut b o hb (tz _ e)))
end
def DM {es:List Expr}{k:Nat}{pos:Pos}{t:yI}{n:Nat}(hc:X.calm=true)(h:CS X es t)
  (hn:(assignEach es X.env).length=n) (hst:(assignEach es X.env).findIdx? (·.1)=none){Y:JV}{H:Hp}{a:Addr}{u:Value}{xs:List V}{Q:St->Hp->Prop}(I:Inv X Y U H s) (r:RelV (.ref a) u)
  (hq:aP X.K H a xs) (hl:xs.length=n) (hw:t xs U H Q):wpAny (model X.prog X.w) X.A (assign (.Tuple es k pos) X.env u) (λ_ s'=>∃ σ' H',Inv X Y σ' H' s'/\Q σ' H') X.xe s:=by
 cases r;obtain⟨its,rv,p,hz⟩:=I.list hq;rw[assign_Tuple];refine am (wpAny_standAt ?_);unfold unpack;have e1:(assignEach es X.env).length=its.toArray.size:=by
  rw[hn,<-hl];simp[rv.length]
 rw[e1,hst];refine am (bi (ic (I.ok.hd hc) p.isList p.isList.typeIs λh' hx=>?_));have I1:Inv X Y U H { s with heap:=h' }:=I.kept (t':=s.toks) λb o e=>hx b o (pi (u8 e)) e
 exact h Y _ U H xs _ Q I1 (by simpa using rv) hw
end
end L2
namespace L3
open PySem PySem.Spec L2
set_option maxHeartbeats 2000000
abbrev BQ:Expr->Bool
 | .Tuple ..=>false
 |_=>true
abbrev uU (S:Sn):List Nat->List Expr->Bool
 | [],[]=>true
 |i::is,.Name x _::r=>S.loc i x&&uU S is r
 |_,_=>false
abbrev HM (S:Sn):Hi->Expr->Bool
 | .nm i,e=>match e with| .Name x _=>S.loc i x|_=>false
 | .tp is,e=>match e with| .Tuple ts _ _=>uU S is ts|_=>false
 | .nt i is,e=>match e with| .Tuple y1 _ _=>(match y1 with| [y2,y3]=>(match y2 with| .Name x _=>(match y3 with| .Tuple ts _ _=>S.loc i x&&uU S is ts|_=>false)|_=>false)|_=>false)|_=>false
mutual
noncomputable def mS (S:Sn):Sx->Stmt->Bool
 | .asg i e,s=>match s with| .Assign y1 e' _=>(match y1 with| [y2]=>(match y2 with| .Name x _=>S.loc i x&&mE S e e'|_=>false)|_=>false)|_=>false
 | .asgT is e,s=>match s with| .Assign y1 e' _=>(match y1 with| [y2]=>(match y2 with| .Tuple ts _ _=>uU S is ts&&mE S e e'&&BQ e'|_=>false)|_=>false)|_=>false
 | .par is es,_=>false
 | .sub o i v,s=>match s with| .Assign y1 v' _=>(match y1 with| [y2]=>(match y2 with| .Subscript o' i' _=>mE S o o'&&mE S i i'&&mE S v v'&&eo i'|_=>false)|_=>false)|_=>false
 | .fld o f v,s=>match s with| .Assign y1 v' _=>(match y1 with| [y2]=>(match y2 with| .Attribute o' f' _=>mE S o o'&&decide (f=f')&&mE S v v'|_=>false)|_=>false)|_=>false
 | .aug i op e,s=>match s with| .AugAssign y1 op' e' _=>(match y1 with| .Name x _=>S.loc i x&&decide (op=op')&&mE S e e'|_=>false)|_=>false
 | .augS o i op e,s=>match s with| .AugAssign y1 op' e' _=>(match y1 with| .Subscript o' i' _=>mE S o o'&&mE S i i'&&decide (op=op')&&mE S e e'&&eo i'|_=>false)|_=>false
 | .augF o f op e,s=>match s with| .AugAssign y1 op' e' _=>(match y1 with| .Attribute o' f' _=>mE S o o'&&decide (f=f')&&decide (op=op')&&mE S e e'|_=>false)|_=>false
 | .ret e,s=>match s with| .Return y1 _=>(match y1 with|some e'=>mE S e e'|_=>false)|_=>false
 | .retN,_=>false
 | .pass,_=>false
 | .brk,_=>false
 | .cont,_=>false
 | .expr e,s=>match s with| .Expr e' _=>mE S e e'&&qR e'|_=>false
 | .ife c a b,s=>match s with| .If c' a' b' _=>mT S c c'&&mB S a a'&&mB S b b'|_=>false
 | .whl c b,s=>match s with| .While c' b' y1 _=>(match y1 with| []=>mT S c c'&&mB S b b'|_=>false)|_=>false
 | .for t it b,s=>match s with| .For t' it' b' y1 _=>(match y1 with| []=>HM S t t'&&mI S it t' it'&&mB S b b'&&cF it'|_=>false)|_=>false
 | .rais e,s=>match s with| .Raise y1 y2 _=>(match y1 with|some e'=>(match y2 with|none=>mE S e e'|_=>false)|_=>false)|_=>false
 | .tryx b hs,s=>match s with| .Try b' y1 y2 y3 _=>(match y1 with|h0::hs'=>(match y2 with| []=>(match y3 with| []=>mB S b b'&&mH S hs (h0::hs')|_=>false)|_=>false)|_=>false)|_=>false
noncomputable def mB (S:Sn):j7->List Stmt->Bool
 | .nil,l=>l.isEmpty
 | .cons s r,l=>match l with|s'::r'=>mS S s s'&&mB S r r'| []=>false
noncomputable def mH (S:Sn):yl->List ExceptHandler->Bool
 | .nil,l=>l.isEmpty
 | .cons c i b hs,l=>match l with| .ExceptHandler (some (.Name x _)) (some n) (b0::bs) _::r=>S.pK x&&decide (S.T.gcl.lookup x=some c)&&decide (S.N[i]? =some n)&&decide (S.sc.names.lookup n=some .local)&&mB S b (b0::bs)&&mH S hs r|_=>false
end
structure Gs (X:Cx) (G:Gx) (S:Sn) (k:Nat) (E:St->XK):Prop extends Gd X G S k E where
 own:PassesOwn (model X.prog X.w) X.A X.env X.xe
 stk:X.stack=X.env::X.outer
 fr:X.env.frame=some X.env.locals
 fn:∀ x,X.fn x=true
variable {e elt:Expr}{ts:List Expr}{p:Pos}{gs:List Comprehension}{scope:Scope}
section
variable {X:Cx}{G:Gx}{S:Sn}{k:Nat}{E:St->XK}
def Gs.fA (g:Gs X G S k E){Y:JV}{xe:JU}{E':St->XK}(hx:Ez (X.fA Y xe) E')(ho:PassesOwn (model X.prog X.w) X.A X.env xe):Gs (X.fA Y xe) G S k E' where
 hK:=g.hK
 hT:=g.hT
 sc:=g.sc
 N:=g.N
 nd:=g.nd
 pass:=gO hx
 cm:=g.cm
 xok:=λ_=>hx
 xst:=g.xst
 room:=g.room
 un:=g.un
 tab:=g.tab
 fns:=g.fns
 own:=ho
 stk:=g.stk
 fr:=g.fr
 fn:=g.fn
def Gs.a9 (g:Gs X G S k E)(e:Value):Gs (X.a9 e) { G with cm:=false } S k (λ_ _ _=>False) where
 hK:=g.hK
 hT:=g.hT
 sc:=g.sc
 N:=g.N
 nd:=g.nd
 pass:=λY U H s e s' I h=>by
  obtain⟨e,H',C,dx,fs,T,_,_,_,_,_,_,_,_,_,q⟩:=h;exact q.elim
 cm:=λz=>by cases z
 xok:=λz=>by cases z
 xst:=g.xst
 room:=λz=>by cases z
 un:=g.un
 tab:=g.tab
 fns:=g.fns
 own:=PassesOwn.never
 stk:=g.stk
 fr:=g.fr
 fn:=g.fn
def jq (env:Env):∀ {is:List Nat}{ts:List Expr},uU S is ts=true->(assignEach ts env).length=is.length/\(assignEach ts env).findIdx? (·.1)=none
 | [],[],_=>⟨rfl,rfl⟩
 | [],_::_,h=>by simp[uU]at h
 |_::_,[],h=>by simp[uU]at h
 |i::is,t::ts,h=>by
  cases t<;>simp[uU]at h
  rename_i x p;obtain⟨h1,h2⟩:=jq env h.2;have e:assignEach (.Name x p::ts) env=(false,assign (.Name x p) env)::assignEach ts env:=rfl;rw[e];refine⟨by simp[h1],?_⟩;rw[List.findIdx?_cons];simp[h2]
def lH (g:Gs X G S k E):∀ {is:List Nat}{ts:List Expr},uU S is ts=true->CS X ts (gl is)
 | [],[],_=>λY s U H vs us Q I r h=>mJ Y s U H vs us Q I r ⟨length_eq_zero_iff.mp h.1,by
   have:=h.2;have e:vs=[]:=length_eq_zero_iff.mp h.1;subst e;exact this⟩
 | [],_::_,h=>by simp[uU]at h
 |_::_,[],h=>by simp[uU]at h
 |i::is,t::ts,h=>by
  cases t<;>simp[uU]at h
  rename_i x p;obtain⟨hi,hx⟩:=g.loc h.1;have h1:PG X (.Name x p) (gc i):=gr (by rw[g.N];exact g.nd) hi hx (.inl (g.fn x));have h2:=lH g h.2;intro Y s U H vs us Q I r q;refine gv h1 h2 rfl Y s U H vs us Q I r ?_;obtain⟨hl,q⟩:=q;cases vs with
  |nil=>simp at hl
  |cons v vs=>exact⟨v,vs,rfl,by simpa using hl,q⟩
def B1 (g:Gs X G S k E)(hc:G.cm=true){t:Hi}(h:HM S t e=true):PG X e (λv U H Q=>wG U t G.R.K v H λσ1=>Q σ1 H):=by
 cases t with
 |nm i=>
  conv at h=>lhs;whnf
  split at h
  .obtain⟨hi,hx⟩:=g.loc h;exact gr (by rw[g.N];exact g.nd) hi hx (.inl (g.fn _))
  .cases h
 |tp is=>
  conv at h=>lhs;whnf
  split at h
  .intro Y s U H v u Q I r q;obtain⟨a,xs,rfl,hq,hl,q⟩:=q;obtain⟨e1,e2⟩:=jq X.env h;rw[g.hK]at hq;rcases hq with hq|hq
   .exact lF (g.cm hc) (lH g h) e1 e2 Y s U H _ u Q I r ⟨a,xs,rfl,hq,hl,hl,q⟩
   .exact DM (g.cm hc) (lH g h) e1 e2 I r hq hl ⟨hl,q⟩
  .cases h
 |nt i is=>
  conv at h=>lhs;whnf
  split at h
  .split at h
   .split at h
    .split at h
     .intro Y s U H v u Q I r q;simp only[mo]at h;obtain⟨a,y,b,ys,rfl,hq,hb,hl,q⟩:=q;obtain⟨e1,e2⟩:=jq X.env h.2;obtain⟨hi,hx⟩:=g.loc h.1;rw[g.hK]at hq hb;refine lF (n:=2) (g.cm hc) (gv (gr (by rw[g.N];exact g.nd) hi hx (.inl (g.fn _))) (gv (lF (g.cm hc) (lH g h.2) e1 e2) mJ rfl) rfl) rfl rfl Y s U H _ u Q I r ⟨a,_,rfl,hq,rfl,y,_,rfl,.ref b,_,rfl,b,ys,rfl,hb,hl,hl,rfl,q⟩
     .cases h
    .cases h
   .cases h
  .cases h
def nZ {kk:Nat}(n:Nat)(env:Env):swapsWithSole [.Tuple ts kk p] e n env=pure false:=by
 cases e<;>rfl
def uj {o i:Expr}(n:Nat)(env:Env):swapsWithSole [.Subscript o i p] e n env=pure false:=by
 cases e<;>rfl
def uL {o:Expr}{f:Str}(n:Nat)(env:Env):swapsWith e (some (.Attribute o f p)) n env=pure false:=by
 cases e<;>rfl
def qy {kk:Nat}(env:Env)(h:BQ e=true):swappedStores [.Tuple ts kk p] e env=pure none:=by
 cases e<;>first|rfl|cases h
def qA {o i:Expr}(env:Env):swappedStores [.Subscript o i p] e env=pure none:=by
 cases e<;>rfl
def pR {o i:Expr}{pos:Pos}{env:Env}(h:eo i=true):∀ v,assign (.Subscript o i pos) env v=(do
   let ov <-holding [v] (eval o env)
   let iv <-holding [v,ov] (eval i env)
   standAt pos
   holding [v,ov,iv] (setItem ov iv v)
   release [v,ov,iv] []):=by
 intro v;cases i<;>first|rfl|cases h
def Aa {i:Expr}(h:eo i=true):∀ ov iv new,augStore i ov iv new=(do holding [new,ov,iv] (setItem ov iv new);release [new,ov,iv] [];pure .next):=by
 intro ov iv new;cases i<;>first|rfl|cases h
def yc (op:Operator):FE X op (EI op):=by
 intro Y s U H x y v u Q I r1 r2 h;unfold EI at h
 split at h
 .exact Eh Y s U H _ _ v u Q I r1 r2 ⟨_,_,rfl,rfl,h⟩
 .exact Dl Y s U H _ _ v u Q I r1 r2 ⟨_,_,rfl,rfl,h⟩
 .exact h.elim
def EC (g:Gd X G S k E):El X (xG G.R.K):=by
 intro Y s U H x y v u Q I r1 r2 h;unfold xG at h;rw[g.hK]at h
 split at h
 .obtain⟨xs,w,h1,h2,h3,q⟩:=h;exact wA Y s U H _ _ v u Q I r1 r2 ⟨_,xs,_,w,rfl,rfl,h1,h2,h3,q⟩
 .exact h.elim
def qp {py:Pos}{y:Str}{n:Nat}{env:Env}(hk:env.scope.kind=.function):∃ b,swapsWith (.ListComp elt gs scope p) (some (.Name y py)) n env=pure b/\(b=true->env.scope.names.lookup y=some .local):=by
 refine⟨_,rfl,λh=>?_⟩;simp only[mo]at h;have:=h.1.1.2;exact beq_iff_eq.mp this
end
set_option maxHeartbeats 2000000
variable {S:Sn}
section
variable {k:Nat}
def FU {x:Ex}(h:mE S x (.ListComp elt gs scope p)=true):(∃ e' sel it y py iter,x=.lc e' sel it/\gs=[⟨.Name y py,iter,[],0⟩]/\
  fk S scope [y] sel=true/\mI S it (.Name y py) iter=true/\mE { S with sc:=du S.sc scope,N:=y::sel.filterMap λi=>S.N[i]? } e' elt=true/\cF iter=true)\/
  (∃ e' c sel it y py iter c',x=.lci e' c sel it/\gs=[⟨.Name y py,iter,[c'],0⟩]/\
  fk S scope [y] sel=true/\mI S it (.Name y py) iter=true/\mE { S with sc:=du S.sc scope,N:=y::sel.filterMap λi=>S.N[i]? } e' elt=true/\mT { S with sc:=du S.sc scope,N:=y::sel.filterMap λi=>S.N[i]? } c c'=true/\cF iter=true)\/
  ∃ e' n sel it ts kt pt iter,x=.lct e' n sel it/\gs=[⟨.Tuple ts kt pt,iter,[],0⟩]/\
  fk S scope (E9 ts) sel=true/\xg { S with sc:=du S.sc scope,N:=E9 ts++sel.filterMap λi=>S.N[i]? } (List.range n) ts=true/\(E9 ts).length=n/\mI S it (.Tuple ts kt pt) iter=true/\mE { S with sc:=du S.sc scope,N:=E9 ts++sel.filterMap λi=>S.N[i]? } e' elt=true/\cF iter=true:=by
 cases x<;>(try (cases(show false=true from h);done))
 all_goals (conv at h=>lhs;whnf)
 all_goals (iterate 5 (split at h<;>first|(cases h;done)|skip))
 all_goals (simp only[mo,decide_eq_true_eq]at h)
 all_goals first
  |exact .inl ⟨_,_,_,_,_,_,rfl,rfl,h.1.1.1,h.1.1.2,h.1.2,h.2⟩
  |exact .inr (.inl ⟨_,_,_,_,_,_,_,_,rfl,rfl,h.1.1.1.1,h.1.1.1.2,h.1.1.2,h.1.2,h.2⟩)
  |exact .inr (.inr ⟨_,_,_,_,_,_,_,_,rfl,rfl,h.1.1.1.1.1,h.1.1.1.1.2,h.1.1.1.2,h.1.1.2,h.1.2,h.2⟩)
def qh (e:Expr){x:Ex}(h:mE S x e=true):qR e=true\/∃ elt gs scope p,e=.ListComp elt gs scope p:=by
 cases e<;>first|exact .inl rfl|exact .inr ⟨_,_,_,_,rfl⟩|(cases x<;>cases(show false=true from h))
def EY {G:Gx}{X:Cx}{E:St->XK}(g:Gs X G S k E){i:Nat}{x:Str}{e:Ex}{e':Expr}{px:Pos}(hx:S.loc i x=true)(h:mE S e e'=true):PS X (.Assign [.Name x px] e' p) (λD U H=>wS (.asg i e) G D E U H):=by
 obtain⟨hi,hl⟩:=g.loc hx;have hN:X.N.Nodup:=by rw[g.N];exact g.nd
 rcases qh e' h with hn|⟨elt,gs,scope,pp,rfl⟩
 .exact vd hN hi hl (sE e g.toGd h) (fO hn _ _ _) (.inl (g.fn x))
 .intro Y s U H D I q;obtain⟨b,hb,hb2⟩:=qp (elt:=elt) (gs:=gs) (scope:=scope) (p:=pp) (py:=px) (y:=x) (n:=p.line) (env:=X.env) I.ok.kind;cases b with
  |false=>exact vd hN hi hl (sE e g.toGd h) hb (.inl (g.fn x)) Y s U H D I q
  |true=>
   rcases FU h with⟨e2,sel,it,y,py,iter,rfl,rfl,h1,h2,h3,h4⟩|⟨e2,c,sel,it,y,py,iter,c',rfl,rfl,h1,h2,h3,h5,h4⟩|⟨e2,n,sel,it,ts,kt,pt,iter,rfl,rfl,h1,h5,h6,h2,h3,h4⟩
   .obtain⟨hc,q⟩:=(show G.cm=true/\wI G it U H (λJ H1=>xO (λσ' H' Q'=>wE G e2 σ' H' Q' (E U)) J (none::fU U sel) H1 (λx H1=>D.nx (U.set i (some x)) H1)) (E U) from q);rw[yj]at q;obtain⟨cl,C⟩:=bQ g.toGd I.ok h1;exact tU (g.cm hc) (g.toGd.cx hc U) C (sI it g.toGd h2) (λs H fp=>sE e2 (g.toGd.comp C (E U) s H fp) h3) (bt h4 _) hN hi (hb2 rfl) hb Y s H D I q
   .obtain⟨hc,q⟩:=(show G.cm=true/\wI G it U H (λJ H1=>BB (λσ' H' Q'=>wT G c σ' H' Q' (E U)) (λσ' H' Q'=>wE G e2 σ' H' Q' (E U)) J (none::fU U sel) H1 (λx H1=>D.nx (U.set i (some x)) H1)) (E U) from q);rw[xw]at q;obtain⟨cl,C⟩:=bQ g.toGd I.ok h1;exact fu (g.cm hc) (g.toGd.cx hc U) C (sI it g.toGd h2) (λs H fp=>lQ C) (λs H fp=>rQ (sT c (g.toGd.comp C (E U) s H fp) h5)) (λs H fp=>sE e2 (g.toGd.comp C (E U) s H fp) h3) (bt h4 _) hN hi (hb2 rfl) hb Y s H D I q
   .cases(show false=true from h)
mutual
theorem sS:∀ (x:Sx){G:Gx}{X:Cx}{S:Sn}{E:St->XK},Gs X G S k E->∀ {st:Stmt},mS S x st=true->PS X st (λD U H=>wS x G D E U H)
 | .asg i e,G,X,S,E,g,st,h=>by
  sleep 3
  simp only[mo]at h;exact EY g h.1 h.2
 | .asgT is e,G,X,S,E,g,st,h=>by
  sleep 3
  simp only[mo]at h;obtain⟨⟨h1,h2⟩,h3⟩:=h;intro Y s U H D I q;obtain⟨hc,q⟩:=(show G.cm=true/\wE G e U H (λx H1=>wG U (.tp is) G.R.K x H1 λσ1=>D.nx σ1 H1) (E U) from q);exact vN (sE e g.toGd h2) (B1 g hc (t:=.tp is) (by simp only[HM];exact h1)) (nZ _ _) (qy _ h3) rfl Y s U H D I q
 | .par is es,G,X,S,E,g,st,h=>by cases(show false=true from h)
 | .sub o i v,G,X,S,E,g,st,h=>by
  sleep 3
  simp only[mo]at h;obtain⟨⟨⟨h1,h2⟩,h3⟩,h4⟩:=h;exact vN (sE v g.toGd h3) (Cv (sE o g.toGd h1) (sE i g.toGd h2) (rq g.un) (pR h4)) (uj _ _) (qA _) rfl
 | .fld o f v,G,X,S,E,g,st,h=>by
  sleep 3
  simp only[mo,decide_eq_true_eq]at h;obtain⟨⟨h1,rfl⟩,h3⟩:=h;intro Y s U H D I q;have q':wE G v U H (λy H1=>wE G o U H1 (λx H2=>yq G f x y H2 (λH3=>D.nx U H3)) (E U)) (E U):=q;refine plainObj_wpAny_Assign_Attribute (aC (sE v g.toGd h3 Y s U H _ I q') λu s1 ⟨y,H1,I1,ry,q⟩=>aC (sE o g.toGd h1 Y s1 U H1 _ I1 q) λov s2 ⟨x,H2,I2,rx,q2⟩=>?_) (uL _ _);unfold yq at q2;obtain⟨a,i,rfl,hna,q2⟩:=q2;obtain rfl:ov=Value.ref a:=rx;have n:=g.tab.na i f hna;rcases q2 with⟨dx,fs,ho,ea,l,q2⟩|⟨d,fs,fr,ho,ea,l,q2⟩|⟨fr,ho,ea,q2⟩
  .exact jV I2 ea (g.tab.oc i ho).1 n l ry λs3 I3=>⟨U,_,I3,q2⟩
  .exact jy I2 ea (g.tab.xc i ho).1 n l ry λs3 I3=>⟨U,_,I3,q2⟩
  .exact jw I2 ea (g.tab.xc i ho).1 n ry λd s3 hd I3=>⟨U,_,I3,q2 d hd⟩
 | .aug i op e,G,X,S,E,g,st,h=>by
  sleep 2
  simp only[mo,decide_eq_true_eq]at h;obtain⟨⟨h1,rfl⟩,h3⟩:=h;obtain⟨hi,hl⟩:=g.loc h1;refine PS.imp (CN (by rw[g.N];exact g.nd) hi hl (sE e g.toGd h3) (yc op) (.inl (g.fn _))) λD U H q=>?_
  conv at q=>whnf
  split at q
  .rename_i e;exact⟨_,e,q⟩
  .exact q.elim
 | .augS o i op e,G,X,S,E,g,st,h=>by
  sleep 2
  simp only[mo,decide_eq_true_eq]at h;obtain⟨⟨⟨⟨h1,h2⟩,rfl⟩,h3⟩,h4⟩:=h;exact Ao (sE o g.toGd h1) (sE i g.toGd h2) (EC g.toGd) (sE e g.toGd h3) (yc op) (rq g.un) (Aa h4)
 | .augF o f op e,G,X,S,E,g,st,h=>by
  sleep 2
  simp only[mo,decide_eq_true_eq]at h;obtain⟨⟨⟨h1,rfl⟩,rfl⟩,h3⟩:=h;intro Y s U H D I q;have q':wE G o U H (λx H1=>kq G f x H1 (λu H2=>wE G e U H2 (λy H3=>EI op u y H3 λz H4=>yq G f x z H4 (λH5=>D.nx U H5)) (E U))) (E U):=q;refine wpAny_AugAssign_AttributeAny (aC (sE o g.toGd h1 Y s U H _ I q') λov s1 ⟨x,H1,I1,rx,qf⟩=>?_);unfold kq at qf;obtain⟨a,i,fs,v,rfl,ea,hna,l,q1⟩:=qf;obtain rfl:ov=Value.ref a:=rx;have n:=g.tab.na i f hna;have go:∀ (u:Value) (s2:Shared),Inv X Y U H1 s2->RelV v u->wpAny (model X.prog X.w) X.A (eval _ X.env) (λw s3=>wpAny (model X.prog X.w) X.A (inplaceOp op u w) (λnew s4=>wpAny (model X.prog X.w) X.A (setAttr (.ref a) f new) (λ_=>SP X Y D .next) X.xe s4) X.xe s3) X.xe s2:=λu s2 I2 ru=>by
   refine aC (sE e g.toGd h3 Y s2 U H1 _ I2 q1) λw s3 ⟨y,H3,I3,ry,q3⟩=>aC (yc op Y s3 U H3 v y u w _ I3 ru ry q3) λnew s4 ⟨z,H4,I4,rz,q4⟩=>?_
   unfold yq at q4;obtain⟨a',i',ea',hna',q5⟩:=q4;cases ea';have n':=g.tab.na i' f hna';rcases q5 with⟨dx,fs',ho,eb,l',q5⟩|⟨d,fs',fr,ho,eb,l',q5⟩|⟨fr,ho,eb,q5⟩
   .exact jV I4 eb (g.tab.oc i' ho).1 n' l' rz λs5 I5=>⟨U,_,I5,q5⟩
   .exact jy I4 eb (g.tab.xc i' ho).1 n' l' rz λs5 I5=>⟨U,_,I5,q5⟩
   .exact jw I4 eb (g.tab.xc i' ho).1 n' rz λd s5 hd I5=>⟨U,_,I5,q5 d hd⟩
  rcases ea with⟨ho,dx,ea⟩|⟨ho,dx,fr,ea⟩
  .exact jn I1 ea (g.tab.oc i ho).1 n l λu s2 I2 ru=>go u s2 I2 ru
  .exact kB I1 ea (g.tab.xc i ho).1 n l λu s2 I2 ru=>go u s2 I2 ru
 | .ret e,G,X,S,E,g,st,h=>by
  sleep 2
  exact Ed (sE e g.toGd h)
 | .retN,G,X,S,E,g,st,h=>by cases(show false=true from h)
 | .pass,G,X,S,E,g,st,h=>by cases(show false=true from h)
 | .brk,G,X,S,E,g,st,h=>by cases(show false=true from h)
 | .cont,G,X,S,E,g,st,h=>by cases(show false=true from h)
 | .expr e,G,X,S,E,g,st,h=>by
  sleep 1
  simp only[mo]at h;exact Aw (sE e g.toGd h.1) (fO h.2 _ _ _)
 | .ife c a b,G,X,S,E,g,st,h=>by
  sleep 1
  simp only[mo]at h;exact PS.imp (FJ (PT.cn (sT c g.toGd h.1.1)) (sB a g h.1.2) (sB b g h.2)) λD U H q=>⟨_,q,λk H1 z=>by rwa [cX]at z⟩
 | .whl c b,G,X,S,E,g,st,h=>by
  sleep 2
  simp only[mo]at h;refine PS.imp (xP g.own (PT.cn (sT c g.toGd h.1)) (sB b g h.2)) λD U H q=>?_
  obtain⟨W,w0,w1⟩:=q;exact⟨W,w0,λm U H w=>⟨_,w1 m U H w,λk H1 z=>by rwa [cX]at z⟩⟩
 | .for t it b,G,X,S,E,g,st,h=>by
  sleep 2
  simp only[mo]at h;obtain⟨⟨⟨h1,h2⟩,h3⟩,h4⟩:=h;intro Y s U H D I q
  conv at q=>whnf
  obtain⟨hc,q⟩:=q;unfold j4 at q;exact C9 g.own (g.cm hc) (sI it g.toGd h2) (B1 g hc h1) (sB b g h3) (bt h4 _) Y s U H D I q
 | .rais e,G,X,S,E,g,st,h=>by
  sleep 3
  intro Y s U H D I q
  conv at q=>whnf
  obtain⟨hc,q⟩:=q;refine vB (g.xok hc) (g.cm hc) (PE.cn (sE e g.toGd h)) Y s U H D I ⟨_,q,λv H1 z=>?_⟩;obtain⟨a,i,dx,fs,ev,ea,hi,q⟩:=z;exact⟨a,_,dx,fs,ev,ea,(g.tab.xc i hi).1,q⟩
 | .tryx b hs,G,X,S,E,g,st,h=>by
  sleep 4
  simp only[mo]at h;intro Y s U H D I q;obtain⟨hc,q⟩:=(show G.cm=true/\wB b G D (λσ' e H'=>wH hs G D σ' e H') U H from q);refine CP (E':=λσ' e H'=>wH hs G D σ' e H') I g.stk g.fr (λxe hx ho=>?_) λσ' H' s' e C dx fs T J he hT hH hp st q'=>?_
  .exact sB b (g.fA hx ho) h.1 [] s U H D (I.fA xe) q
  .exact sH hs g h.2 J he hT hH hp st q'
theorem sB:∀ (x:j7){G:Gx}{X:Cx}{S:Sn}{E:St->XK},Gs X G S k E->∀ {st:List Stmt},mB S x st=true->yK X st (λD U H=>wB x G D E U H)
 | .nil,G,X,S,E,g,[],h=>Ah
 | .nil,G,X,S,E,g,_::_,h=>by cases(show false=true from h)
 | .cons x xs,G,X,S,E,g,[],h=>by cases(show false=true from h)
 | .cons x xs,G,X,S,E,g,st::sts,h=>by
  have h:(mS S x st&&mB S xs sts)=true:=h;simp only[mo]at h;exact xH (sS x g h.1) (sB xs g h.2)
theorem sH:∀ (x:yl){G:Gx}{X:Cx}{S:Sn}{E:St->XK},Gs X G S k E->∀ {hs:List ExceptHandler},mH S x hs=true->∀ {Y:JV}{U:St}{H:Hp}{s:Shared}{e C:Addr}{dx:Option Addr}{fs:List (Str×V)}{T:Addr}{D:Ends},
  L2.Inv X Y U H s->H e=some (.exc C dx fs false)->X.s₀.heap.objs.size<=T->H T=none->(∀ p ∈ X.pn++Y,p.1≠T)->ue s.heap e T .none->wH x G D U e H->wpAny (model X.prog X.w) X.A (handleBy (.ref e) X.env hs) (SP X Y D) X.xe s
 | .nil,G,X,S,E,g,hs,h,Y,U,H,s,e,C,dx,fs,T,D,I,he,hT,hH,hp,st,q=>by
  simp only[wH]at q
 | .cons c i b hs,G,X,S,E,g,l,h,Y,U,H,s,e,C,dx,fs,T,D,I,he,hT,hH,hp,st,q=>by
  conv at h=>lhs;whnf
  split at h
  .simp only[mo,decide_eq_true_eq]at h;obtain⟨⟨⟨⟨⟨h1,h2⟩,h3⟩,h4⟩,h5⟩,h6⟩:=h;obtain⟨hg,hdb⟩:=g.glob h1;have hm:=g.tab.gcl _ _ (g.hT▸h2);obtain⟨j,dx',fs',kk,he',hxc,hsub,q⟩:=(show ∃ j dx fs k,H e=some (.exc (G.R.cad j) dx fs false)/\G.T.xc.contains j=true/\G.T.sub.lookup (j,c)=some k/\_ from q);have ee:=he.symm.trans he'
   injection ee with ee
   injection ee with e1 e2 e3 e4
   subst e1;obtain⟨_,hs2⟩:=g.tab.sub j c kk hsub;obtain⟨hs3,hs4⟩:=hs2 hxc;refine oq (i:=i) I he hT hH hp st (g.tab.xc j hxc).1 hs4 hs3 hg hm (by rw[g.N];exact g.nd) (by rw[g.N];exact h3) (by rw[g.sc];exact h4) hdb (λhk s2 J=>?_) λhk=>?_
   .rw[hk]at q;unfold iB at q;exact sB b (g.a9 (.ref e)) h5 Y s2 _ H _ J q
   .rw[hk]at q;unfold iB at q;exact sH hs g h6 I he hT hH hp st q
  .cases h
end
end
abbrev cu (T:Tab)(R:Rt):Nat->Nat->Sp
 |0,_=>λ_ _ _ _=>False
 |k+1,f=>λvs H Q E=>match T.fns[f]? with
  |some d=>vs.length=d.ps.length/\wB d.body ⟨T,R,cu T R k,true⟩ { nx:=λ_ H'=>Q .non H',rt:=Q } (λ_=>E) (start d.N vs) H
  |none=>False
structure ua (K:W.Frag) (T:Tab) (f:Addr) (d:ay):Prop where
 ex:∃ (name qual:Str) (params:Arguments) (body:List Stmt) (scope:Scope) (dV kV doc pm cdv ct oc:Value) (od an:Option Addr) (osl:Array (Option Value)),
  K.lookup f=some ⟨oc,od,.func (W.fnOf name qual params body scope dV kV doc pm an cdv ct),osl⟩/\W.codeIn K cdv qual=true/\jc d.N d.ps scope/\mB ⟨T,scope,d.N⟩ d.body body=true/\
  ∀ j,∃ ds,Binds K (W.fnOf name qual params body scope dV kV doc pm an cdv ct) d.ps ds/\Vals (d.dfl.drop j) ds
def vO {P:Program}{w:World}{K:W.Frag}{mg:JW}{base:Heap}{T:Tab}{R:Rt}(tab:zx K mg T R)(hK:R.K=K)(fs:∀ f d,T.fns[f]? =some d->ua K T (R.fad f) d):
  ∀ (k f:Nat) (d:ay),T.fns[f]? =some d->vH P w K mg base (2*k) (R.fad f) d (cu T R k f)
 |0,f,d,hd=>by
  obtain⟨name,qual,params,body,scope,dV,kV,doc,pm,cdv,ct,oc,od,an,osl,lk,hcd,S,hm,hb⟩:=(fs f d hd).ex;exact⟨⟨_,⟨λ_ _ _ _ h=>h.elim,λ_ _ _ _ _ _ _ _ _ _ _ _ _ h=>h.elim⟩,hb⟩,λ_ _ _ _ _=>⟨λ_ _ _ _ h=>h.elim,λ_ _ _ _ _ _ _ _ _ _ _ _ _ h=>h.elim⟩⟩
 |k+1,f,d,hd=>by
  obtain⟨name,qual,params,body,scope,dV,kV,doc,pm,cdv,ct,oc,od,an,osl,lk,hcd,S,hm,hb⟩:=(fs f d hd).ex;have F:=GZ (P:=P) (w:=w) (mg:=mg) (base:=base) (CX:=xb P w) (k:=2*k+1) (sp:=cu T R (k+1) f) lk hcd S (λvs H Q E h=>?_) (λA outer s H vs Q E hr h=>?_)
  .refine⟨⟨_,F,hb⟩,λfd oc' od' osl' lk'=>?_⟩;have e:=lk.symm.trans lk'
   injection e with e
   injection e with e1 e2 e3 e4
   injection e3 with e3
   subst e3;exact F
  .simp only[cu,hd]at h;exact h.1
  .simp only[cu,hd]at h;refine⟨λD U H=>wB d.body ⟨T,R,cu T R k,true⟩ D (λ_=>E) U H,?_,h.2⟩;have hx:=uf (P:=P) (w:=w) (K:=K) (mg:=mg) (base:=base) (N:=d.N) (qual:=qual) (scope:=scope) (f:=R.fad f) (cd:=cdv) (A:=A) (outer:=outer) (E:=E) (s:=s) (H:=H);refine sB (k:=2*k) d.body (G:=⟨T,R,cu T R k,true⟩) (S:=⟨T,scope,d.N⟩) { hK:=hK,hT:=rfl,sc:=rfl,N:=rfl,nd:=S.nd,pass:=gO hx,cm:=λ_=>rfl,xst:=⟨_,_,_,rfl,rfl,rfl⟩,room:=λ_=>hr,un:= ?_,tab:=tab,fns:=λf' d' hd'=>vO tab hK fs k f' d' hd',xok:=λ_=>hx,own:=PassesOwn.leaving,stk:=rfl,fr:=rfl,fn:=λ_=>rfl } hm;have:=hr.un;show(A.deeper _).units+200<cLine
   omega
abbrev iP (K:W.Frag)(n:Nat):Sp:=λvs H Q _=>∃ (a:Addr) (ns:List Int),vs=[.ref a]/\aP K H a (ns.map V.int)/\ns.length<=n/\∀ H',Q (.bl true) H'
variable {P:Program}
def uY {w:World}{H:Hp}{s:Shared}{e:Value}{s':Shared}(h:xb P w [] H s (λ_ _=>False) e s'):False:=by
 obtain⟨e,H',C,dx,fs,T,_,_,_,_,_,_,_,_,_,q⟩:=h;exact q
variable {K:W.Frag}{fd:FuncData}{ps:List Str}
def CD (h:Binds K fd ps []):∀ j:Nat,∃ ds,Binds K fd ps ds/\Vals (([]:List V).drop j) ds:=λj=>⟨[],h,by simp;exact .nil⟩
def yT {ds:List Value}{T:Addr}{o:Obj}{items:Array Value}{c n:Nat}(hd:fd.defaults=.ref T)(ho:K.lookup T=some o)(hs:o.data=.seq items c)(hn:n+ds.length=ps.length)
  (h:∀ us:List Value,us.length=n->∃ k:Option (Array Value)->Sem (List (Str×Value)),bindArgs fd ⟨us,[]⟩=seqItems? fd.defaults >>= k/\k (some items)=pure (ps.zip (us++ds))):Binds K fd ps ds:=λs us X hl=>by
 obtain⟨k,h1,h2⟩:=h us (by rw[db]at hl;omega);exact W.binds_K X hd ho hs h1 h2
def kR:∀ {vs:List V}{us:List Value}(j:Nat),Vals vs us->Vals (vs.drop j) (us.drop j)
 |_,_,0,h=>h
 |_,_,j+1,.nil=>by simp;exact .nil
 |_::_,_::_,j+1,.cons _ h=>by simpa using kR j h
def qr {α β:Type} [BEq α] [LawfulBEq α] {x:α}{y:β}:∀ {l:List (α×β)},l.lookup x=some y->(x,y) ∈ l
 | [],h=>by simp at h
 |(a,b)::l,h=>by
  rw[lookup_cons]at h;cases e:x ==a with
  |true=>
   rw[e]at h;have:=beq_iff_eq.mp e;subst this
   injection h with h
   subst h;exact lv
  |false=>
   rw[e]at h;exact f8 _ (qr h)
def ju {α β:Type} [BEq α] [LawfulBEq α] {P:α->β->Prop}{l:List (α×β)}(h:∀ p ∈ l,P p.1 p.2):∀ x y,l.lookup x=some y->P x y:=λx y e=>h (x,y) (qr e)
def gy {α β γ:Type} [BEq α] [LawfulBEq α] [BEq β] [LawfulBEq β] {P:α->β->γ->Prop}{l:List ((α×β)×γ)}(h:∀ p ∈ l,P p.1.1 p.1.2 p.2):∀ x y z,l.lookup (x,y)=some z->P x y z:=λx y z e=>h ((x,y),z) (qr e)
def hG {α:Type} [BEq α] [LawfulBEq α] {P:α->Prop}{l:List α}(h:∀ p ∈ l,P p):∀ x,l.contains x=true->P x:=λx e=>h x (by simpa using e)
def yQ {α β:Type} [BEq α] [LawfulBEq α] [BEq β] [LawfulBEq β] {P:α->β->Prop}{l:List (α×β)}(h:∀ p ∈ l,P p.1 p.2):∀ x y,l.contains (x,y)=true->P x y:=λx y e=>h (x,y) (by simpa using e)
abbrev rj (P:Nat->ay->Prop):Nat->List ay->Prop
 |_,[]=>True
 |n,d::r=>P n d/\rj P (n+1) r
def BG {P:Nat->ay->Prop}:∀ {l:List ay}{n:Nat},rj P n l->∀ f d,l[f]? =some d->P (n+f) d
 | [],_,_,f,d,e=>by simp at e
 |a::l,n,h,0,d,e=>by
  have:a=d:=by simpa using e
  subst this;exact h.1
 |a::l,n,h,f+1,d,e=>by
  have:=BG h.2 f d (by simpa using e)
  rwa [Nat.add_assoc,Nat.add_comm 1 f]at this
def qq {P:Nat->ay->Prop}{l:List ay}(h:rj P 0 l):∀ f d,l[f]? =some d->P f d:=λf d e=>by
 have:=BG h f d e
 rwa [Nat.zero_add]at this
def Ec {w:World}{mg:JW}{base:Heap}{T:Tab}{R:Rt}(tab:zx K mg T R)(hK:R.K=K)(fs:∀ f d,T.fns[f]? =some d->ua K T (R.fad f) d) (k fl:Nat) (d:ay) (hd:T.fns[fl]? =some d)
  {oc:Value}{od:Option Addr}{osl:Array (Option Value)}(lk:K.lookup (R.fad fl)=some ⟨oc,od,.func fd,osl⟩) (h:∀ vs H Q E,iP K 63 vs H Q E->cu T R k fl vs H Q E):cT P w K mg base (xb P w) (2*k) (R.fad fl) fd d.ps (iP K 63):=
 ((vO tab hK fs k fl d hd).own _ _ _ _ lk).imp h
end L3
namespace L3
open PySem L2
abbrev lJ:HO->HO
 | .lst _=>.lst []
 | .dK _=>.dK []
 | .dT _=>.dT []
 | .ji _ (.dK _)=>.dK []
 | .ins C dx _=>.ins C dx []
 | .exc C _ _ _=>.exc C none [] false
 |o=>o
abbrev kx (H H':Hp):Prop:=∀ a o,H a=some o->∃ o',H' a=some o'/\lJ o'=lJ o
def kx.tup {H H':Hp}(g:kx H H'){t:Addr}{xs:List V}(h:H t=some (.tup xs)):H' t=some (.tup xs):=by
 obtain⟨o',h1,h2⟩:=g t _ h;have key:∀ u:HO,lJ u=.tup xs->u=.tup xs:=λu=>by cases u<;>intro e<;>first|exact e|cases e|(rename_i v;cases v<;>cases e)
 rw[key o' h2]at h1;exact h1
variable {H:Hp}{a:Addr}{xs:List V}
def Cg (e:H a=some (.lst xs)):tyName (.ref a) H=some "list":=by
 show(match H a with|some (.lst _)=>some "list"|some (.tup _)=>some "tuple"|some (.dK _)=>some "dict"|some (.ji _ (.dK _))=>some "dict"|_=>none)=_;rw[e]
def IL (e:H a=some (.tup xs)):tyName (.ref a) H=some "tuple":=by
 show(match H a with|some (.lst _)=>some "list"|some (.tup _)=>some "tuple"|some (.dK _)=>some "dict"|some (.ji _ (.dK _))=>some "dict"|_=>none)=_;rw[e]
variable {kvs:List (Key×V)}
def II (e:H a=some (.dK kvs)):tyName (.ref a) H=some "dict":=by
 show(match H a with|some (.lst _)=>some "list"|some (.tup _)=>some "tuple"|some (.dK _)=>some "dict"|some (.ji _ (.dK _))=>some "dict"|_=>none)=_;rw[e]
def kx.upd {o o':HO}(h:H a=some o)(e:lJ o'=lJ o):kx H (L2.upd H a o'):=λb u hb=>by
 by_cases z:b=a
 .subst z;rw[h]at hb;cases hb;exact⟨o',ar,e⟩
 .exact⟨u,(ag z).trans hb,rfl⟩
def kx.new {o':HO}(h:H a=none):kx H (L2.upd H a o'):=λb u hb=>⟨u,(ag λz=>by rw[z,h]at hb;cases hb).trans hb,rfl⟩
structure ai where
 p:Hp->(Addr->Prop)->Prop
 st:∀ H H' D,p H D->(∀ a,D a->H' a=H a)->kx H H'->p H' D
 up:∀ H D D',p H D->(∀ a,D a->D' a)->p H D'
abbrev pt (a:Addr)(o:HO):ai:=⟨λH D=>D a/\H a=some o,λH H' D h k _=>⟨h.1,(k a h.1).trans h.2⟩,λH D D' h k=>⟨k a h.1,h.2⟩⟩
abbrev tu (t:Addr)(xs:List V):ai:=⟨λH _=>H t=some (.tup xs),λH H' D h _ k=>k.tup h,λH D D' h _=>h⟩
abbrev pu (φ:Prop):ai:=⟨λ_ _=>φ,λ_ _ _ h _ _=>h,λ_ _ _ h _=>h⟩
variable {α:Type}
abbrev ex (f:α->ai):ai:=⟨λH D=>∃ x,(f x).p H D,λH H' D ⟨x,h⟩ k t=>⟨x,(f x).st H H' D h k t⟩,λH D D' ⟨x,h⟩ k=>⟨x,(f x).up H D D' h k⟩⟩
abbrev qN (A B:ai):ai:=⟨λH D=>∃ D1 D2:Addr->Prop,(∀ a,D1 a->D a)/\(∀ a,D2 a->D a)/\(∀ a,D1 a->D2 a->False)/\A.p H D1/\B.p H D2,
 λH H' D ⟨D1,D2,s1,s2,dj,h1,h2⟩ k t=>⟨D1,D2,s1,s2,dj,A.st H H' D1 h1 (λa z=>k a (s1 a z)) t,B.st H H' D2 h2 (λa z=>k a (s2 a z)) t⟩,
 λH D D' ⟨D1,D2,s1,s2,dj,h1,h2⟩ k=>⟨D1,D2,λa z=>k a (s1 a z),λa z=>k a (s2 a z),dj,h1,h2⟩⟩
abbrev aY:List ai->Hp->(Addr->Prop)->Prop
 | [],_,_=>True
 |A::O,H,D=>∃ D1 D2:Addr->Prop,(∀ a,D1 a->D a)/\(∀ a,D2 a->D a)/\(∀ a,D1 a->D2 a->False)/\A.p H D1/\aY O H D2
abbrev Sep (O:List ai)(H:Hp):Prop:=∃ D:Addr->Prop,(∀ a,D a->H a≠none)/\aY O H D
inductive aw (A:ai):List ai->List ai->Prop where
 |e {O:List ai}:aw A (A::O) O
 |t {B:ai}{O Γ':List ai}(h:aw A O Γ'):aw A (B::O) (B::Γ')
variable {g:List ai}
section
variable {A B:ai}{O Γ':List ai}{H H':Hp}{a b p t:Addr}{o o':HO}{xs:List V}{φ:Prop}
def aY.st:∀ {O:List ai}{H H':Hp}{D:Addr->Prop},aY O H D->(∀ a,D a->H' a=H a)->kx H H'->aY O H' D
 | [],_,_,_,_,_,_=>True.intro
 |A::O,H,H',D,⟨D1,D2,s1,s2,dj,h1,h2⟩,k,t=>⟨D1,D2,s1,s2,dj,A.st H H' D1 h1 (λa z=>k a (s1 a z)) t,aY.st h2 (λa z=>k a (s2 a z)) t⟩
def aY.up:∀ {O:List ai}{H:Hp}{D D':Addr->Prop},aY O H D->(∀ a,D a->D' a)->aY O H D'
 | [],_,_,_,_,_=>True.intro
 |A::O,H,D,D',⟨D1,D2,s1,s2,dj,h1,h2⟩,k=>⟨D1,D2,λa z=>k a (s1 a z),λa z=>k a (s2 a z),dj,h1,h2⟩
def Sep.nil:Sep [] H:=⟨λ_=>False,λ_ z=>z.elim,True.intro⟩
def aY.pull:∀ {O Γ':List ai}{D:Addr->Prop},aw A O Γ'->aY O H D->aY (A::Γ') H D:=by
 intro O Γ' D h
 induction h generalizing D with
 |e=>exact λz=>z
 |t h ih=>
  rintro⟨D1,D2,s1,s2,dj,h1,h2⟩;obtain⟨E1,E2,t1,t2,ej,k1,k2⟩:=ih h2;refine⟨E1,λa=>D1 a\/E2 a,λa z=>s2 a (t1 a z),λa z=>z.elim (s1 a) λz=>s2 a (t2 a z),λa z1 z2=>?_,k1,D1,E2,λa z=>.inl z,λa z=>.inr z,λa z1 z2=>dj a z1 (t2 a z2),h1,k2⟩;rcases z2 with z2|z2
  .exact dj a z2 (t1 a z1)
  .exact ej a z1 z2
def Sep.pull (h:aw A O Γ')(s:Sep O H):Sep (A::Γ') H:=let⟨D,k,z⟩:=s;⟨D,k,aY.pull h z⟩
def aY.push:∀ {O Γ':List ai}{D:Addr->Prop},aw A O Γ'->aY (A::Γ') H D->aY O H D:=by
 intro O Γ' D h
 induction h generalizing D with
 |e=>exact λz=>z
 |t h ih=>
  rintro⟨D1,D2,s1,s2,dj,h1,E1,E2,t1,t2,ej,k1,k2⟩;refine⟨E1,λa=>D1 a\/E2 a,λa z=>s2 a (t1 a z),λa z=>z.elim (s1 a) λz=>s2 a (t2 a z),λa z1 z2=>?_,k1,ih ⟨D1,E2,λa z=>.inl z,λa z=>.inr z,λa z1 z2=>dj a z1 (t2 a z2),h1,k2⟩⟩;rcases z2 with z2|z2
  .exact dj a z2 (t1 a z1)
  .exact ej a z1 z2
def Sep.push (h:aw A O Γ')(s:Sep (A::Γ') H):Sep O H:=let⟨D,k,z⟩:=s;⟨D,k,aY.push h z⟩
def Sep.drop (s:Sep (A::O) H):Sep O H:=let⟨D,k,D1,D2,s1,s2,dj,h1,h2⟩:=s;⟨D2,λa z=>k a (s2 a z),h2⟩
def Sep.at (s:Sep (pt a o::O) H):H a=some o:=let⟨D,k,D1,D2,s1,s2,dj,h1,h2⟩:=s;h1.2
def Sep.atT (s:Sep (tu t xs::O) H):H t=some (.tup xs):=let⟨D,k,D1,D2,s1,s2,dj,h1,h2⟩:=s;h1
def Sep.pure (s:Sep (pu φ::O) H):φ:=let⟨D,k,D1,D2,s1,s2,dj,h1,h2⟩:=s;h1
def Sep.HI (h:φ)(s:Sep O H):Sep (pu φ::O) H:=let⟨D,k,h2⟩:=s;⟨D,k,λ_=>False,D,λ_ z=>z.elim,λ_ z=>z,λ_ z _=>z,h,h2⟩
def Sep.Ha (h:H t=some (.tup xs))(s:Sep O H):Sep (tu t xs::O) H:=let⟨D,k,h2⟩:=s;⟨D,k,λ_=>False,D,λ_ z=>z.elim,λ_ z=>z,λ_ z _=>z,h,h2⟩
def Sep.ne (s:Sep (pt a o::pt b o'::O) H):a≠b:=by
 obtain⟨D,k,D1,D2,s1,s2,dj,h1,E1,E2,t1,t2,ej,k1,k2⟩:=s;rintro rfl;exact dj a h1.1 (t1 a k1.1)
def Sep.set (s:Sep (pt a o::O) H)(n:lJ o'=lJ o):Sep (pt a o'::O) (upd H a o'):=by
 obtain⟨D,k,D1,D2,s1,s2,dj,h1,h2⟩:=s;refine⟨D,λb z=>?_,D1,D2,s1,s2,dj,⟨h1.1,ar⟩,aY.st h2 (λb z=>ag λe=>dj a h1.1 (e▸z)) (kx.upd h1.2 n)⟩
 by_cases e:b=a
 .rw[e,ar];exact λz=>by cases z
 .rw[ag e];exact k b z
def Sep.new (s:Sep O H)(h:H p=none):Sep (pt p o::O) (upd H p o):=by
 obtain⟨D,k,z⟩:=s;have ne:∀ b,D b->b≠p:=λb hb e=>k b hb (e▸h)
 refine⟨λb=>b=p\/D b,λb hb=>?_,λb=>b=p,D,λb e=>.inl e,λb e=>.inr e,λb e z=>ne b z e,⟨rfl,ar⟩,aY.st z (λb hb=>ag (ne b hb)) (kx.new h)⟩;rcases hb with rfl|hb
 .rw[ar];exact λz=>by cases z
 .rw[ag (ne b hb)];exact k b hb
def Sep.mG (s:Sep O H)(h:H p=none):Sep (tu p xs::O) (upd H p (.tup xs)):=Sep.Ha ar (Sep.drop (s.new (o:=.tup xs) h))
def Sep.toT (s:Sep (pt t (.tup xs)::O) H):Sep (tu t xs::O) H:=Sep.Ha s.at s.drop
def Sep.star:Sep (qN A B::O) H ↔ Sep (A::B::O) H:=by
 constructor
 .rintro⟨D,k,D1,D2,s1,s2,dj,⟨E1,E2,t1,t2,ej,k1,k2⟩,h2⟩;refine⟨D,k,E1,λa=>E2 a\/D2 a,λa z=>s1 a (t1 a z),λa z=>z.elim (λz=>s1 a (t2 a z)) (s2 a),λa z1 z2=>?_,k1,E2,D2,λa z=>.inl z,λa z=>.inr z,λa z1 z2=>dj a (t2 a z1) z2,k2,h2⟩;rcases z2 with z2|z2
  .exact ej a z1 z2
  .exact dj a (t1 a z1) z2
 .rintro⟨D,k,D1,D2,s1,s2,dj,h1,E1,E2,t1,t2,ej,k1,k2⟩;refine⟨D,k,λa=>D1 a\/E1 a,E2,λa z=>z.elim (s1 a) λz=>s2 a (t1 a z),λa z=>s2 a (t2 a z),λa z1 z2=>?_,⟨D1,E1,λa z=>.inl z,λa z=>.inr z,λa z1 z2=>dj a z1 (t1 a z2),h1,k1⟩,k2⟩;rcases z1 with z1|z1
  .exact dj a z1 (t2 a z2)
  .exact ej a z1 z2
def Sep.Hd {f:α->ai}:Sep (ex f::O) H ↔ ∃ x,Sep (f x::O) H:=by
 constructor
 .rintro⟨D,k,D1,D2,s1,s2,dj,⟨x,h1⟩,h2⟩;exact⟨x,D,k,D1,D2,s1,s2,dj,h1,h2⟩
 .rintro⟨x,D,k,D1,D2,s1,s2,dj,h1,h2⟩;exact⟨D,k,D1,D2,s1,s2,dj,⟨x,h1⟩,h2⟩
def Sep.get (s:Sep O H)(h:aw (pt a o) O Γ'):H a=some o:=(s.pull h).at
def Sep.GN (s:Sep O H)(h:aw (tu t xs) O Γ'):H t=some (.tup xs):=(s.pull h).atT
inductive dg (A B:ai):List ai->List ai->Prop where
 |e {O:List ai}:dg A B (A::O) (B::O)
 |t {C:ai}{O Γ':List ai}(h:dg A B O Γ'):dg A B (C::O) (C::Γ')
def aw.k1 {b:ai}:aw A (b::A::g) (b::g):=.t .e
def aw.k2 {b c:ai}:aw A (b::c::A::g) (b::c::g):=.t .k1
def aw.k3 {b c d:ai}:aw A (b::c::d::A::g) (b::c::d::g):=.t .k2
def dg.k1 {b:ai}:dg A B (b::A::g) (b::B::g):=.t .e
def dg.k2 {b c:ai}:dg A B (b::c::A::g) (b::c::B::g):=.t .k1
def dg.o8 (h:dg A B O Γ'):∃ Δ,aw A O Δ/\aw B Γ' Δ:=by
 induction h with
 |e=>exact⟨_,.e,.e⟩
 |t h ih=>
  obtain⟨Δ,h1,h2⟩:=ih;exact⟨_,.t h1,.t h2⟩
def Sep.put (s:Sep O H)(h:dg (pt a o) (pt a o') O Γ')(n:lJ o'=lJ o):Sep Γ' (upd H a o'):=by
 obtain⟨Δ,h1,h2⟩:=h.o8;exact((s.pull h1).set n).push h2
inductive Sub:List ai->List ai->Prop where
 |refl {O:List ai}:Sub O O
 |nil {O:List ai}:Sub [] O
 |cons {A:ai}{O Γ' Δ:List ai}(h:aw A O Δ) (r:Sub Γ' Δ):Sub (A::Γ') O
 |drop {A:ai}{O Γ':List ai}(r:Sub Γ' O):Sub Γ' (A::O)
def aY.sub:∀ {O Γ':List ai}{D:Addr->Prop},Sub Γ' O->aY O H D->aY Γ' H D:=by
 intro O Γ' D h
 induction h generalizing D with
 |refl=>exact λz=>z
 |nil=>exact λ_=>True.intro
 |cons h r ih=>
  intro z;obtain⟨D1,D2,s1,s2,dj,h1,h2⟩:=aY.pull h z;exact⟨D1,D2,s1,s2,dj,h1,ih h2⟩
 |drop r ih=>
  rintro⟨D1,D2,s1,s2,dj,h1,h2⟩;exact(ih h2).up s2
def Sep.sub (h:Sub Γ' O)(s:Sep O H):Sep Γ' H:=let⟨D,k,z⟩:=s;⟨D,k,aY.sub h z⟩
end
@[irreducible] noncomputable def ae (T:Tab) (R:Rt) (k f:Nat):Sp:=cu T R k f
def pw:ae=cu:=by
 funext T R k f
 unfold ae
 rfl
variable {Q:VK}
def wc {T:Tab}{R:Rt}{k f:Nat}{d:ay}{vs:List V}{E:XK}(hk:0<k)(hd:T.fns[f]? =some d)(hl:vs.length=d.ps.length)
  (h:wB d.body ⟨T,R,ae T R (k-1),true⟩ { nx:=λ_ H'=>Q .non H',rt:=Q } (λ_=>E) (start d.N vs) H):ae T R k f vs H Q E:=by
 rw[pw]at h⊢;cases k with
 |zero=>exact absurd hk (by decide)
 |succ k=>
  show(match T.fns[f]? with|some d=>_|none=>False);rw[hd];exact⟨hl,h⟩
variable {c:Bool}
def wU {A B:Prop}(h1:c=true->A)(h2:c=false->B):iB c A B:=by
 unfold iB;cases c
 .exact h2 rfl
 .exact h1 rfl
def aG {A B:Prop}(h:c=true)(h1:A):iB c A B:=by subst h;unfold iB;exact h1
def aD {A B:Prop}(h:c=false)(h1:B):iB c A B:=by subst h;unfold iB;exact h1
def DY {A B:Prop}(h:iB c B A):iB (!c) A B:=by
 unfold iB at h⊢;cases c
 .exact h
 .exact h
def aN {p:Prop} [Decidable p] {A B:Prop}(h1:p->A)(h2:¬ p->B):iB (decide p) A B:=wU (λh=>h1 (of_decide_eq_true h)) λh=>h2 (of_decide_eq_false h)
def cN {i j:Int}{A B:Prop}(h1:i=j->A)(h2:i≠j->B):iB (gL (.int i) (.int j)) A B:=by
 show iB (i ==j) A B;exact wU (λh=>h1 (by simpa using h)) λh=>h2 (by simpa using h)
variable {dx:Option Addr}{n j:Nat}{fs:List (Str×V)}{es:List V}{R:It->Hp->Prop}{fr b:Bool}
section
variable {K:W.Frag}{G:Gx}{O Γ':List ai}{H:Hp}{Q:VK}{a p:Addr}{o:HO}{xs ys:List V}{v w:V}{i:Int}{f:Str}
def al (s:Sep O H)(h:∀ p H',Sep (pt p o::O) H'->Q (.ref p) H'):∀ p,H p=none->Q (.ref p) (upd H p o):=λp hp=>h p _ (s.new hp)
def gm {C x dx:Addr}(s:Sep O H)(h1:H x=none)(h2:H dx=none)(h3:dx≠x):Sep (pt x (.ins C dx [])::pt dx (.own x)::O) (upd (upd H dx (.own x)) x (.ins C dx [])):=(s.new h2).new (by rw[ag h3.symm];exact h1)
def lC {E:XK}(s:Sep O H)(r:dg (pt a (.exc (G.R.cad n) dx fs true)) (pt a (.exc (G.R.cad n) dx fs false)) O Γ')(ho:G.T.xc.contains n=true)(h:∀ H',Sep Γ' H'->E a H'):
  ∃ b i dx fs,V.ref a=.ref b/\H b=some (.exc (G.R.cad i) dx fs true)/\G.T.xc.contains i=true/\E b (upd H b (.exc (G.R.cad i) dx fs false)):=by
 obtain⟨Δ,h1,h2⟩:=r.o8;exact⟨a,n,dx,fs,rfl,s.get h1,ho,h _ (s.put r rfl)⟩
def Jt (s:Sep O H)(h:∀ p H',Sep (tu p xs::O) H'->Q (.ref p) H'):∀ p,H p=none->Q (.ref p) (upd H p (.tup xs)):=λp hp=>h p _ (s.mG hp)
def cY (s:Sep O H)(hl:es.length<=10000)(h:∀ p H',Sep (pt p (.lst es)::O) H'->Q (.ref p) H'):A0 es H Q:=by unfold A0;exact⟨hl,al s h⟩
def xW (s:Sep O H)(hl:es.length<=10000)(h:∀ p H',Sep (pt p (.tup es)::O) H'->Q (.ref p) H'):mG es H Q:=by unfold mG;exact⟨hl,al s h⟩
def Cr (s:Sep O H)(h:∀ p H',Sep (pt p (.dK [])::O) H'->Q (.ref p) H'):newD H Q:=by unfold newD;exact al s h
def nz {xs:List α}{x:α}(h:xs[j]? =some x):fH xs (0+(j:Int))=some x:=by rw[Int.zero_add];exact L2.bL h
def aT (e:H a=some (.lst xs))(hv:fH xs i=some v)(q:Q v H):tf K (.ref a) (.int i) H Q:=by unfold tf;exact .inl ⟨xs,i,v,rfl,.inl (aP.of e),hv,q⟩
def aV (e:H a=some (.tup xs))(hv:fH xs i=some v)(q:Q v H):tf K (.ref a) (.int i) H Q:=by unfold tf;exact .inl ⟨xs,i,v,rfl,.inr (a5.of e),hv,q⟩
def vQ {R:Hp->Prop}(s:Sep O H)(r:dg (pt a (.lst xs)) (pt a (.lst ys)) O Γ')(hj:rE xs.length i=some j)(hx:xs.set j v=ys)(h:∀ H',Sep Γ' H'->R H'):tV (.ref a) (.int i) v H R:=by
 obtain⟨Δ,h1,h2⟩:=r.o8;subst hx;unfold tV;exact .inl ⟨xs,i,j,rfl,s.get h1,hj,h _ (s.put r rfl)⟩
def G3 (e:H a=some (.lst xs))(h0:0<=i)(hv:xs[i.toNat]? =some v)(q:Q v H):xG K (.ref a) (.int i) H Q:=by unfold xG;exact⟨xs,v,aP.of e,h0,hv,q⟩
def aj {dx:Addr}(e:H a=some (.ins (G.R.cad n) dx fs))(ho:G.T.oc.contains n=true)(hn:G.T.na.contains (n,f)=true)(hl:fs.lookup f=some v)(q:Q v H):kq G f (.ref a) H Q:=by unfold kq;exact⟨a,n,fs,v,rfl,.inl ⟨ho,dx,e⟩,hn,hl,q⟩
def GX {dx:Addr}(e:H a=some (.exc (G.R.cad n) (some dx) fs fr))(ho:G.T.xc.contains n=true)(hn:G.T.na.contains (n,f)=true)(hl:fs.lookup f=some v)(q:Q v H):kq G f (.ref a) H Q:=by unfold kq;exact⟨a,n,fs,v,rfl,.inr ⟨ho,dx,fr,e⟩,hn,hl,q⟩
def Cj {dx:Addr}{fs':List (Str×V)}{R:Hp->Prop}(s:Sep O H)(r:dg (pt a (.ins (G.R.cad n) dx fs)) (pt a (.ins (G.R.cad n) dx fs')) O Γ')(ho:G.T.oc.contains n=true)(hn:G.T.na.contains (n,f)=true)(hl:fs.length<1000)(hf:cw f v fs=fs')(h:∀ H',Sep Γ' H'->R H'):yq G f (.ref a) v H R:=by
 obtain⟨Δ,h1,h2⟩:=r.o8;subst hf;unfold yq;exact⟨a,n,rfl,hn,.inl ⟨dx,fs,ho,s.get h1,hl,h _ (s.put r rfl)⟩⟩
def FD {R:Hp->Prop}(s:Sep (pt a (.exc (G.R.cad n) none [] fr)::O) H)(ho:G.T.xc.contains n=true)(hn:G.T.na.contains (n,f)=true)(h:∀ d H',Sep (pt a (.exc (G.R.cad n) (some d) [(f,v)] fr)::pt d (.own a)::O) H'->R H'):yq G f (.ref a) v H R:=by
 unfold yq;refine⟨a,n,rfl,hn,.inr (.inr ⟨fr,ho,s.at,λd hd=>h d _ ?_⟩)⟩;exact((s.new (o:=.own a) hd).pull (.t .e)).set rfl
def jO {n t:String}(ht:tyName v H=some t)(hb:G.T.subB.lookup (t,n)=some b)(q:Q (.bl b) H):gf G (.ty n) v H Q:=by unfold gf;exact .inl ⟨t,b,ht,hb,q⟩
def Ga (e:H a=some (.exc (G.R.cad j) dx fs fr))(ho:G.T.xc.contains j=true)(hb:G.T.sub.lookup (j,n)=some b)(q:Q (.bl b) H):gf G (.own n) (.ref a) H Q:=by unfold gf;exact .inr ⟨a,j,b,rfl,.inr ⟨ho,dx,fs,fr,e⟩,hb,q⟩
def EA {n:String}(e:H a=some (.exc (G.R.cad j) dx fs fr))(ho:G.T.xc.contains j=true)(hb:G.T.subT.lookup (j,n)=some b)(q:Q (.bl b) H):gf G (.ty n) (.ref a) H Q:=by unfold gf;exact .inr ⟨a,j,b,rfl,.inr ⟨ho,dx,fs,fr,e⟩,hb,q⟩
def cJ {dx:Addr}(e:H a=some (.ins (G.R.cad j) dx fs))(ho:G.T.oc.contains j=true)(hb:G.T.sub.lookup (j,n)=some b)(q:Q (.bl b) H):gf G (.own n) (.ref a) H Q:=by unfold gf;exact .inr ⟨a,j,b,rfl,.inl ⟨ho,dx,fs,e⟩,hb,q⟩
def c6 (e:H a=some (.lst xs))(q:Q (.int xs.length) H):gP G .len [.ref a] H Q:=by unfold gP;exact⟨_,xs.length,rfl,.inl ⟨xs,aP.of e,rfl⟩,q⟩
def Eu {j:Int}(hc:G.cm=true)(q:Q (.int (min i j)) H):gP G .min [.int i,.int j] H Q:=by
 unfold gP;refine⟨hc,.inl ⟨i,j,rfl,?_⟩⟩;have e:(if j<i then j else i)=min i j:=by split<;>omega
 rw[e];exact q
def yi {cs:List Nat}(s:Sep O H)(ho:G.T.xc.contains j=true)(e:H a=some (.exc (G.R.cad j) dx fs fr))(hb:anyS G j cs=some b)(q:∀ p H',Sep (tu p (cs.map λc=>.ref (G.R.cad c))::O) H'->Q (.bl b) H'):∀ p,H p=none->nY G cs (.ref a) (upd H p (.tup (cs.map λc=>.ref (G.R.cad c)))) Q:=λp hp=>by
 unfold nY;refine .inr ⟨a,j,b,rfl,.inr ⟨ho,dx,fs,fr,?_⟩,hb,q p _ (s.mG hp)⟩;rw[ag]
 .exact e
 .intro z;rw[z,hp]at e;cases e
def DE (h0:0<=i)(h1:i<n):rE n i=some i.toNat:=by
 unfold rE;rw[if_pos h0,if_pos h1]
def aU (s:Sep O H)(e:H a=some (.lst xs))(h:∀ p H',Sep (pt p (.lst xs)::O) H'->Q (.ref p) H'):gP G .list [.ref a] H Q:=by unfold gP;exact .inl ⟨_,xs,rfl,.inl (aP.of e),al s h⟩
def Ee (s:Sep O H)(e:H a=some (.lst xs))(h:∀ p H',Sep (tu p xs::O) H'->Q (.ref p) H'):gP G .tuple [.ref a] H Q:=by unfold gP;exact⟨_,xs,rfl,.inl ⟨aP.of e,Jt s h⟩⟩
def di (s:Sep O H){b:Addr}(e1:H a=some (.lst xs))(e2:H b=some (.lst ys))(hl:xs.length+ys.length<=100000)(h:∀ p H',Sep (pt p (.lst (xs++ys))::O) H'->Q (.ref p) H'):zV K a b H Q:=by unfold zV;exact .inl ⟨xs,ys,e1,e2,hl,al s h⟩
def fZ {y:V}(s:Sep O H)(r:dg (pt a (.lst xs)) (pt a (.lst (xs++[y]))) O Γ')(hl:xs.length<=10000)(h:∀ H',Sep Γ' H'->Q .non H'):yp .append a xs [y] H Q:=by unfold yp;exact⟨_,rfl,hl,h _ (s.put r rfl)⟩
def Hz {lo hi:Option Int}(s:Sep O H)(e:aP K H a xs)(h:∀ p H',Sep (pt p (.lst (bH xs lo hi))::O) H'->Q (.ref p) H'):sG K (.ref a) lo hi H Q:=by unfold sG;exact .inl ⟨xs,e,al s h⟩
def F0 (e:H a=some (.lst xs))(h:R (EE K a) H):qc K a H R:=by unfold qc;exact .inl ⟨⟨xs,aP.of e⟩,h⟩
def FH (e:H a=some (.lst xs))(h:R (FV a) H):Bg a H R:=by unfold Bg;exact⟨⟨xs,e⟩,h⟩
def mj {lo hi:Option Int}(s:Sep O H)(e:H a=some (.lst xs))(h:∀ p H',Sep (pt p (.lst (bH xs lo hi))::O) H'->Q (.ref p) H'):sG K (.ref a) lo hi H Q:=by unfold sG;exact .inl ⟨xs,aP.of e,al s h⟩
end
variable {x:V}
section
variable {K:W.Frag}{H:Hp}{Q:VK}
def f9 (f:aE x=true):gL x x=true:=by
 cases x<;>simp[aE]at f<;>simp[gL]
def bB {y:V}(fx:aE x=true)(fy:aE y=true)(q:Q (.bl (gL x y)) H):dw K false x y H Q:=by unfold dw;exact .inr ⟨0,_,.flat fx fy,by decide,.inl fx,q⟩
def rL {y:V}(fx:aE x=true)(fy:aE y=true)(q:Q (.bl (!gL x y)) H):dw K true x y H Q:=by unfold dw;exact .inr ⟨0,_,.flat fx fy,by decide,.inl fx,q⟩
def jN {b:Addr}(h:eZ K H n (.ref a) (.ref b) c)(hn:n<=100)(ne:a≠b)(q:Q (.bl c) H):dw K false (.ref a) (.ref b) H Q:=by unfold dw;exact .inr ⟨n,c,h,hn,.inr (.inl λz=>ne (V.ref.inj z)),q⟩
def fL {b:Addr}(h:eZ K H n (.ref a) (.ref b) c)(hn:n<=100)(ne:a≠b)(q:Q (.bl (!c)) H):dw K true (.ref a) (.ref b) H Q:=by unfold dw;exact .inr ⟨n,c,h,hn,.inr (.inl λz=>ne (V.ref.inj z)),q⟩
def w8 {t:String}(h:tyName x H=some t):eZ K H (n+1) x x true:=by
 have key:aE x=true->eZ K H (n+1) x x true:=λf=>by
  have:=eZ.flat (K:=K) (H:=H) (n:=n+1) f f
  rwa [f9 f]at this
 cases x<;>first|exact key rfl|exact .same _|(cases h)
def all_true (n:Nat):(List.range n).all (λ_=>true)=true:=by simp
def yh {b:Addr}(h1:H a=some (.lst xs))(h2:H b=some (.lst xs))(h:∀ x ∈ xs,∃ t,tyName x H=some t):eZ K H (n+2) (.ref a) (.ref b) true:=by
 have:=eZ.ll (K:=K) (n:=n) (e:=λ_=>true) (aP.of h1) (aP.of h2) rfl λj x y e1 e2=>by
  rw[e1]at e2;cases e2;obtain⟨t,ht⟩:=h x (dl e1);exact w8 ht
 rwa [all_true]at this
end
variable {K:W.Frag}{rest:St}{te:TE}
section
variable {D:Ends}{F:(St->Hp->Prop)->V->St->Hp->Prop}{U:St}{H:Hp}
def eg {lo:Int}(I:Nat->St->Hp->Prop)(h0:I 0 U H)(hs:∀ j U H,j<n->I j U H->F (I (j+1)) (.int (lo+j)) U H) (hd:∀ U H,I n U H->D.nx U H):j4 (EN lo n) D F U H:=by
 unfold j4;refine⟨λi m U H=>m=n-i/\i<=n/\I i U H,⟨n,by simp,Nat.zero_le _,h0⟩,λi m U H ⟨e,hi,h⟩=>?_⟩
 by_cases hlt:i<n
 .refine .inr ⟨hlt,I (i+1),λσ' H' h'=>⟨n-(i+1),by omega,rfl,hlt,h'⟩,λx H' y=>?_⟩;obtain⟨rfl,rfl⟩:=y;exact hs i U H' hlt h
 .have:i=n:=by omega
  subst this;exact .inl ⟨re _,hd U H h⟩
def yU (I:Nat->St->Hp->Prop)(h0:I 0 U H)(hl:∀ j U H,I j U H->aP K H a xs)
  (hs:∀ j x U H,xs[j]? =some x->I j U H->F (I (j+1)) x U H) (hd:∀ U H,I xs.length U H->D.nx U H):j4 (EE K a) D F U H:=by
 unfold j4;refine⟨λi m U H=>m=xs.length-i/\i<=xs.length/\I i U H,⟨xs.length,by simp,Nat.zero_le _,h0⟩,λi m U H ⟨e,hi',h⟩=>?_⟩
 by_cases hlt:i<xs.length
 .refine .inr ⟨⟨xs,xs[i],hl i U H h,li hlt⟩,I (i+1),λσ' H' h'=>⟨xs.length-(i+1),by omega,rfl,hlt,h'⟩,λx H' y=>?_⟩;obtain⟨rfl,hy⟩:=y;exact hs i x U H' (hy xs (hl i U H' h)) h
 .have:i=xs.length:=by omega
  subst this;exact .inl ⟨⟨xs,hl _ U H h,re _⟩,hd U H h⟩
def yX (I:Nat->St->Hp->Prop)(h0:I 0 U H)(hl:∀ j U H,I j U H->H a=some (.lst xs)) (hs:∀ j x T U H,xs[j]? =some x->I j U H->H T=none->F (I (j+1)) (.ref T) U (upd H T (.tup [.int j,x])))
  (hd:∀ U H,I xs.length U H->D.nx U H):j4 (FV a) D F U H:=by
 unfold j4;refine⟨λi m U H=>m=xs.length-i/\i<=xs.length/\I i U H,⟨xs.length,by simp,Nat.zero_le _,h0⟩,λi m U H ⟨e,hi',h⟩=>?_⟩
 by_cases hlt:i<xs.length
 .refine .inr ⟨⟨xs,xs[i],hl i U H h,li hlt⟩,I (i+1),λσ' H' h'=>⟨xs.length-(i+1),by omega,rfl,hlt,h'⟩,λx H' y=>?_⟩;obtain⟨T,z,hT,rfl,rfl,hy⟩:=y;exact hs i z T U H (hy xs (hl i U H h)) h hT
 .have:i=xs.length:=by omega
  subst this;exact .inl ⟨⟨xs,hl _ U H h,re _⟩,hd U H h⟩
@[irreducible] noncomputable def oB (I:Addr->List V->Hp->Prop) (D:Addr) (ys:List V) (rest:St) (x:Option V):VK:=λv H3=>∃ zs,H3 D=some (.lst zs)/\zs.length<ce/\∃ ys2 x2,x::rest=x2::rest/\ys2.length=ys.length+1/\I D ys2 (upd H3 D (.lst (zs++[v])))
def oB.mk {I:Addr->List V->Hp->Prop}{D:Addr}{ys:List V}{x:Option V}{v:V}{H3:Hp}(h1:H3 D=some (.lst ys))(hl:ys.length<=999)(h2:I D (ys++[v]) (upd H3 D (.lst (ys++[v])))):oB I D ys rest x v H3:=
 by unfold oB;exact⟨ys,h1,cS nofun,ys++[v],x,rfl,by simp,h2⟩
def qS (hn:n<=1000)(I:Addr->List V->Hp->Prop)(h0:∀ D,H D=none->I D [] (upd H D (.lst [])))
  (hs:∀ D ys H',ys.length<n->I D ys H'->te (some (.int (0+(ys.length:Nat)))::rest) H' (oB I D ys rest (some (.int (0+(ys.length:Nat))))))
  (hd:∀ D ys H',ys.length=n->I D ys H'->Q (.ref D) H'):xO te (EN 0 n) (none::rest) H Q:=by
 unfold xO;intro D hD;refine⟨λi m σ' H'=>m=n-i/\i<=n/\∃ ys x0,σ'=x0::rest/\ys.length=i/\I D ys H',⟨n,by simp,Nat.zero_le _,[],none,rfl,rfl,h0 D hD⟩,λi m σ' H' ⟨e,hi,ys,x0,e1,e2,h⟩=>?_⟩;subst e1 e2
 by_cases hlt:ys.length<n
 .refine .inr ⟨hlt,λσ2 H2=>∃ ys2 x2,σ2=x2::rest/\ys2.length=ys.length+1/\I D ys2 H2,λσ2 H2 ⟨ys2,x2,f1,f2,f3⟩=>⟨n-(ys.length+1),by omega,rfl,hlt,ys2,x2,f1,f2,f3⟩,λx H'' y=>?_⟩;obtain⟨e1,e2⟩:=y;subst e1 e2;have z:=hs D ys H'' hlt h;unfold oB at z;exact z
 .have:ys.length=n:=by omega
  exact .inl ⟨Nat.le_of_eq this.symm,hd D ys H' this h⟩
def C0 (hn:xs.length<=1000)(I:Addr->List V->Hp->Prop)(hl:∀ D ys H,I D ys H->aP K H a xs) (h0:∀ D,H D=none->I D [] (upd H D (.lst [])))
  (hs:∀ D ys x H',xs[ys.length]? =some x->I D ys H'->te (some x::rest) H' (oB I D ys rest (some x)))
  (hd:∀ D ys H',ys.length=xs.length->I D ys H'->Q (.ref D) H'):xO te (EE K a) (none::rest) H Q:=by
 unfold xO;intro D hD;refine⟨λi m σ' H'=>m=xs.length-i/\i<=xs.length/\∃ ys x0,σ'=x0::rest/\ys.length=i/\I D ys H',⟨xs.length,by simp,Nat.zero_le _,[],none,rfl,rfl,h0 D hD⟩,λi m σ' H' ⟨e,hi,ys,x0,e1,e2,h⟩=>?_⟩;subst e1 e2
 by_cases hlt:ys.length<xs.length
 .refine .inr ⟨⟨xs,xs[ys.length],hl D ys H' h,li hlt⟩,λσ2 H2=>∃ ys2 x2,σ2=x2::rest/\ys2.length=ys.length+1/\I D ys2 H2,λσ2 H2 ⟨ys2,x2,f1,f2,f3⟩=>⟨xs.length-(ys.length+1),by omega,rfl,hlt,ys2,x2,f1,f2,f3⟩,λx H'' y=>?_⟩;obtain⟨e1,hy⟩:=y;subst e1;have z:=hs D ys x H'' (hy xs (hl D ys H'' h)) h;unfold oB at z;exact z
 .have:ys.length=xs.length:=by omega
  exact .inl ⟨⟨xs,hl D ys H' h,Nat.le_of_eq this.symm⟩,hd D ys H' this h⟩
def pQ {K:W.Frag}{G:Gx}{bs:List Bool}(hc:G.cm=true)(e:H a=some (.lst (bs.map V.bl)))(q:Q (.bl (bs.all id)) H):gP G .all [.ref a] H Q:=by unfold gP;exact⟨hc,_,bs,rfl,aP.of e,q⟩
def aB (q:Q (.bl (decide (x=.non))) H):ym false x .non H Q:=by unfold ym;exact q
def aS (q:Q (.bl (!decide (x=.non))) H):ym true x .non H Q:=by unfold ym;exact q
def Iw (e:a5 K H a xs)(fx:aE x=true)(fs:xs.all aE=true)(q:Q (.bl (uM x xs)) H):m9 K false x (.ref a) H Q:=by unfold m9;exact .inl ⟨xs,.inr e,fx,fs,q⟩
def Fj (e:aP K H a xs)(fx:aE x=true)(fs:xs.all aE=true)(q:Q (.bl (uM x xs)) H):m9 K false x (.ref a) H Q:=by unfold m9;exact .inl ⟨xs,.inl e,fx,fs,q⟩
end
variable {z:Str}
def yE {lo hi:Option Int}(hz:z.length<=100000)(q:∀ z':Str,z'.length<=z.length->Q (.str z') H):sG K (.str z) lo hi H Q:=by unfold sG;exact⟨z,rfl,hz,q _ (gG z lo hi)⟩
def IK {i:Int}(hz:z.length<=100000)(h0:0<=i)(h1:i<z.length)(q:∀ z':Str,z'.length=1->Q (.str z') H):tf K (.str z) (.int i) H Q:=by
 unfold tf;have hl:z.cps.toList.length=z.length:=by simp[Str.length]
 obtain⟨c,hc⟩:∃ c,fH z.cps.toList i=some c:=by
  obtain⟨c,hc⟩:∃ c,z.cps.toList[i.toNat]? =some c:=⟨_,li nofun⟩;refine⟨c,?_⟩;have:=L2.bL hc
  rwa [Int.toNat_of_nonneg h0]at this
 exact⟨i,c,rfl,hz,hc,q _ rfl⟩
section
variable {K:W.Frag}{G:Gx}{O Γ':List ai}{H:Hp}{Q:VK}{a b:Addr}{xs ys:List V}{v:V}
def HV {k:Key}(e:H a=some (.dK kvs))(hv:fm kvs k=some v)(q:Q v H):tf K (.ref a) (kV k) H Q:=by unfold tf;exact .inr (.inl ⟨v,.inl ⟨kvs,k,.inl e,rfl,hv.symm⟩,q⟩)
def Gu (e:a5 K H a xs)(h:R (ER K a) H):qc K a H R:=by unfold qc;exact .inr (.inl ⟨⟨xs,e⟩,h⟩)
def Il {p:Addr}{more:List (Key×V)}(e:H p=some (.dK kvs))(eb:H b=some (.dK more))(hab:p≠b)(hl:kvs.length+more.length<=1000)(q:Q .non (upd H p (.dK (bb kvs more)))):Bi p (.ref b) H Q:=by unfold Bi;exact⟨kvs,more,b,rfl,hab,e,eb,hl,q⟩
def Fl {k:Key}(e:H a=some (.dK kvs))(q:Q (.bl (!(fm kvs k).isSome)) H):m9 K true (kV k) (.ref a) H Q:=by unfold m9;exact .inr (.inl ⟨_,.inl ⟨kvs,k,.inl e,rfl,rfl⟩,q⟩)
def F7 (e:a5 K H a xs)(fx:aE x=true)(fs:xs.all aE=true)(q:Q (.bl (!uM x xs)) H):m9 K true x (.ref a) H Q:=by unfold m9;exact .inl ⟨xs,.inr e,fx,fs,q⟩
def H0 {C:Addr}(s:Sep O H)(h:∀ x dx H',Sep (pt x (.ins C dx [])::pt dx (.own x)::O) H'->Q (.ref x) H'):t6 C H Q:=by unfold t6;exact λx dx h1 h2 h3=>h x dx _ (gm s h1 h2 h3)
def Fc {lo hi:Option Int}(s:Sep O H)(e:H a=some (.tup xs))(hw:¬ (HT.aO xs.length 0 lo=0/\HT.aO xs.length xs.length hi=xs.length))(h:∀ p H',Sep (pt p (.tup (bH xs lo hi))::O) H'->Q (.ref p) H'):sG K (.ref a) lo hi H Q:=by unfold sG;exact .inr ⟨a,xs,rfl,a5.of e,hw,al s h⟩
def Ew {lo hi:Option Int}(hz:z.length<=100000)(q:Q (.str (fv z lo hi)) H):sG K (.str z) lo hi H Q:=by unfold sG;exact⟨z,rfl,hz,q⟩
def gB {n:Int}(hn:PySem.intText? z=some n)(hl:z.length<=640)(q:Q (.int n) H):gP G .int [.str z] H Q:=by unfold gP;exact .inr ⟨z,n,rfl,hn,hl,q⟩
def jZ {y:Str}(s:Sep O H)(hy:(y.length ==0)=false)(hz:z.length<=100000)(q:∀ p H',Sep (pt p (.lst ((Txt.split z y).map V.str))::O) H'->Q (.ref p) H'):x6 K .split z (.str y) H Q:=by unfold x6 qi;exact⟨z,y,rfl,rfl,hy,hz,al s q⟩
def lb {y:Str}(q:Q (.bl (Txt.startswith z y)) H):x6 K .starts z (.str y) H Q:=by unfold x6 mN;exact⟨z,y,rfl,rfl,q⟩
def eK {G:Gx}{zs:List Str}(e:H a=some (.lst (zs.map V.str)))(hw:(zs.map (·.length)).sum+zs.length<=1000000)(hz:z.length<=16)(q:Q (.str (Txt.join z zs)) H):x6 K .join z (.ref a) H Q:=by unfold x6 rJoin;exact⟨z,a,zs,rfl,rfl,aP.of e,hw,hz,q⟩
def Fb {c:Nat}{i:Int}(hz:z.length<=100000)(hv:fH z.cps.toList i=some c)(q:Q (.str ⟨#[c]⟩) H):tf K (.str z) (.int i) H Q:=by unfold tf;exact⟨i,c,rfl,hz,hv,q⟩
def Ai {D:Ends}{F:(St->Hp->Prop)->V->St->Hp->Prop}{U:St}(I:Nat->St->Hp->Prop)(h0:I 0 U H)
  (hs:∀ j c U H,z.cps[j]? =some c->I j U H->F (I (j+1)) (.str ⟨#[c]⟩) U H) (hd:∀ U H,I z.cps.size U H->D.nx U H):j4 (B2 z) D F U H:=by
 unfold j4;refine⟨λi m U H=>m=z.cps.size-i/\i<=z.cps.size/\I i U H,⟨z.cps.size,by simp,Nat.zero_le _,h0⟩,λi m U H ⟨e,hi',h⟩=>?_⟩
 by_cases hlt:i<z.cps.size
 .refine .inr ⟨hlt,I (i+1),λσ' H' h'=>⟨z.cps.size-(i+1),by omega,rfl,hlt,h'⟩,λx H' y=>?_⟩;obtain⟨rfl,c,hy,rfl⟩:=y;exact hs i c U H' hy h
 .have:i=z.cps.size:=by omega
  subst this;exact .inl ⟨re _,hd U H h⟩
def lP (hn:z.cps.size<=1000)(I:Addr->List V->Hp->Prop)(h0:∀ D,H D=none->I D [] (upd H D (.lst [])))
  (hs:∀ D ys c H',z.cps[ys.length]? =some c->I D ys H'->te (some (.str ⟨#[c]⟩)::rest) H' (oB I D ys rest (some (.str ⟨#[c]⟩))))
  (hd:∀ D ys H',ys.length=z.cps.size->I D ys H'->Q (.ref D) H'):xO te (B2 z) (none::rest) H Q:=by
 unfold xO;intro D hD;refine⟨λi m σ' H'=>m=z.cps.size-i/\i<=z.cps.size/\∃ ys x0,σ'=x0::rest/\ys.length=i/\I D ys H',⟨z.cps.size,by simp,Nat.zero_le _,[],none,rfl,rfl,h0 D hD⟩,λi m σ' H' ⟨e,hi,ys,x0,e1,e2,h⟩=>?_⟩;subst e1 e2
 by_cases hlt:ys.length<z.cps.size
 .refine .inr ⟨hlt,λσ2 H2=>∃ ys2 x2,σ2=x2::rest/\ys2.length=ys.length+1/\I D ys2 H2,λσ2 H2 ⟨ys2,x2,f1,f2,f3⟩=>⟨z.cps.size-(ys.length+1),by omega,rfl,hlt,ys2,x2,f1,f2,f3⟩,λx H'' y=>?_⟩;obtain⟨e1,c,hc,rfl⟩:=y;subst e1;have w:=hs D ys c H'' hc h;unfold oB at w;exact w
 .have:ys.length=z.cps.size:=by omega
  exact .inl ⟨Nat.le_of_eq this.symm,hd D ys H' this h⟩
end
end L3
namespace L3
open PySem PySem.Spec PySem.W L2
variable {ps:List Str}
def wz:∀ {us:List Value}{n:Str},us.length=ps.length->n ∈ ps->((ps.zip us).lookup n).isNone=false:=by
 induction ps with
 |nil=>intro us n _ h;cases h
 |cons p ps ih=>
  intro us n hl h;cases us with
  |nil=>cases hl
  |cons u us=>
   rw[zip_cons_cons,lookup_cons];cases e:n ==p with
   |true=>rfl
   |false=>
    rcases lw.mp h with rfl|h
    .rw[beq_self_eq_true]at e;cases e
    .exact ih (Nat.succ.inj hl) h
def qC:∀ {ps:List Str}{us:List Value},ps.Nodup->us.length=ps.length->∀ {L:List (Str×Value)},(∀ n ∈ ps,L.lookup n=(ps.zip us).lookup n)->ps.filterMap (λn=>(L.lookup n).map (n,·))=ps.zip us
 | [],us,_,_,L,_=>rfl
 |p::ps,[],_,hl,L,_=>by cases hl
 |p::ps,u::us,nd,hl,L,hL=>by
  have h0:L.lookup p=some u:=by rw[hL p lv,zip_cons_cons,lookup_cons,beq_self_eq_true]
  rw[filterMap_cons,h0,zip_cons_cons];show(p,u)::_=_;rw[qC (nodup_cons.mp nd).2 (Nat.succ.inj hl) (L:=L)];intro n hn;rw[hL n (f8 _ hn),zip_cons_cons,lookup_cons];have:(n ==p)=false:=by
   cases e:n ==p with
   |false=>rfl
   |true=>
    have:=beq_iff_eq.mp e;subst this;exact absurd hn (nodup_cons.mp nd).1
  rw[this]
variable {fd:FuncData}
def nV (nd:ps.Nodup)(h1:fd.params.posonlyargs=[])(h2:fd.params.args.map (·.arg)=ps)(h3:fd.params.kwonlyargs=[])(h4:fd.params.vararg=none)(h5:fd.params.kwarg=none)(h6:fd.defaults=.none)(us:List Value)(hl:us.length=ps.length):
  bindArgs fd ⟨us,[]⟩=pure (ps.zip us):=by
 obtain⟨name,qual,⟨po,as,va,ko,kd,ka,df⟩,body,scope,glo,cn,dV,kV,doc,pm,an,cdv,ct,bu⟩:=fd;dsimp only at h1 h2 h3 h4 h5 h6;subst h1 h2 h3 h4 h5 h6;generalize hps:as.map (·.arg)=ps at nd hl⊢;have e1:seqItems? (Value.none)=(pure none:Sem (Option (Array Value))):=rfl;have e2:∀ f:Str->Bool,(∀ n ∈ ps,f n=false)->ps.filter f=[]:=λf h=>List.filter_eq_nil_iff.mpr λa ha=>by rw[h a ha];decide
 have e3:¬ (us.length>ps.length):=by omega
 have e4:=e2 (λn=>((ps.zip us).lookup n).isNone) λn hn=>wz hl hn
 have e5:=qC nd hl (L:=ps.zip us) λ_ _=>rfl
 unfold bindArgs;dsimp only[List.map_nil,nil_append,append_nil];rw[hps];simp[e1,e3,e4,e5]
abbrev gD (S:List (Str×Value))(x:Str×Value):List (Str×Value):=if(S.lookup x.1).isNone=true then S++[x] else S
def Bp:∀ {L:List (Str×Value)}{S:List (Str×Value)},(∀ x ∈ L,(S.lookup x.1).isNone=false)->L.foldl gD S=S
 | [],_,_=>rfl
 |x::L,S,h=>by
  have h0:gD S x=S:=by
   unfold gD;rw[if_neg (by rw[h x lv];decide)]
  rw[foldl_cons,h0];exact Bp λy hy=>h y (f8 _ hy)
def B4:∀ {L:List (Str×Value)}{S:List (Str×Value)},(L.map (·.1)).Nodup->(∀ x ∈ L,S.lookup x.1=none)->L.foldl gD S=S++L
 | [],S,_,_=>by rw[append_nil];rfl
 |x::L,S,nd,h=>by
  have h0:gD S x=S++[x]:=by
   unfold gD;rw[if_pos (by rw[h x lv];rfl)]
  rw[map_cons]at nd;rw[foldl_cons,h0,B4 (nodup_cons.mp nd).2]
  .rw[lf];rfl
  .intro y hy;have hne:(y.1 ==x.1)=false:=by
    cases e:y.1 ==x.1 with
    |false=>rfl
    |true=>
     have e:=beq_iff_eq.mp e;exact absurd (List.mem_map_of_mem (f:=(·.1)) hy) (e▸(nodup_cons.mp nd).1)
   obtain⟨a,b⟩:=x;rw[List.lookup_append,h y (f8 _ hy),lookup_cons,hne]
   rfl
def BF {n:Str}:∀ {L:List (Str×Value)},(∀ x ∈ L,x.1≠n)->L.lookup n=none
 | [],_=>rfl
 |(a,b)::L,h=>by
  have:(n ==a)=false:=by
   cases e:n ==a with
   |false=>rfl
   |true=>exact absurd (beq_iff_eq.mp e).symm (h (a,b) lv)
  rw[lookup_cons,this];exact BF λx hx=>h x (f8 _ hx)
variable {A:List Str}{B:List Value}
def lW {x:Str×Value}(h:x ∈ A.zip B):x.1 ∈ A:=by
 obtain⟨a,b⟩:=x;exact(of_mem_zip h).1
def zip_map (h:A.length<=B.length):(A.zip B).map (·.1)=A:=List.map_fst_zip h
def m8 {B:List Str}{us:List Value}(h:A.length=us.length):(A++B).zip us=A.zip us:=by
 have:=zip_append (l₁:=A) (l₂:=us) (r₁:=B) (r₂:=[]) h;rw[append_nil,List.zip_nil_right,append_nil]at this;exact this
def AQ {B:List Str}{us D1 D2:List Value}(nd:(A++B).Nodup)(h1:A.length=us.length)(h2:B.length=D2.length)(h3:D1.length<=A.length):
  (((A++B).drop (A.length-D1.length)).zip (D1++D2)).foldl gD ((A++B).zip us)=(A++B).zip (us++D2):=by
 have a:=Bp (L:=(A.drop (A.length-D1.length)).zip D1) (S:=(A++B).zip us) λx hx=>by
  rw[m8 h1];exact wz h1.symm (List.mem_of_mem_drop (lW hx))
 have b:=B4 (L:=B.zip D2) (S:=(A++B).zip us) (by rw[zip_map nofun];exact(List.nodup_append.mp nd).2.1) λx hx=>by
  refine BF λy hy e=>?_
  rw[m8 h1]at hy;exact(List.nodup_append.mp nd).2.2 y.1 (lW hy) x.1 (lW hx) e
 rw[List.drop_append_of_le_length nofun,zip_append (by rw[le];omega),List.foldl_append,a,b,m8 h1,zip_append h1]
def wX {us ds:List Value}(nd:ps.Nodup)(h1:us.length<=ps.length)(h2:ds.length<=ps.length)(h3:ps.length<=us.length+ds.length):
  ((ps.drop (ps.length-ds.length)).zip ds).foldl gD (ps.zip us)=ps.zip (us++ds.drop (us.length+ds.length-ps.length)):=by
 have nd2:(ps.take us.length++ps.drop us.length).Nodup:=by rw[take_append_drop];exact nd
 have:=AQ (A:=ps.take us.length) (B:=ps.drop us.length) (us:=us) (D1:=ds.take (us.length+ds.length-ps.length)) (D2:=ds.drop (us.length+ds.length-ps.length)) nd2 (by rw[dL];omega) (by rw[le,le];omega) (by rw[dL,dL];omega);rw[take_append_drop,take_append_drop,dL,dL]at this;rw[show min us.length ps.length-min (us.length+ds.length-ps.length) ds.length=ps.length-ds.length by omega]at this;exact this
def pI:∀ {L:List (Str×Value)}{S:List (Str×Value)},(forIn L S λx r=>(match x with|(name,d)=>if(r.lookup name).isNone=true then pure (ForInStep.yield (r++[(name,d)])) else pure (ForInStep.yield r):Sem (ForInStep (List (Str×Value)))))=pure (L.foldl gD S)
 | [],S=>by simp
 |(a,b)::L,S=>by
  rw[forIn_cons,foldl_cons,<-pI];unfold gD
  by_cases e:(S.lookup a).isNone=true
  .simp only[e,if_true,pure_bind]
  .simp only[e,if_false,pure_bind,Bool.false_eq_true]
def xJ {T:Addr}{items:Array Value}(nd:ps.Nodup)(h1:fd.params.posonlyargs=[])(h2:fd.params.args.map (·.arg)=ps)(h3:fd.params.kwonlyargs=[])(h4:fd.params.vararg=none)(h5:fd.params.kwarg=none)(h6:fd.defaults=.ref T)(us:List Value)(l1:us.length<=ps.length)(l2:items.toList.length<=ps.length)(l3:ps.length<=us.length+items.toList.length):
  ∃ k:Option (Array Value)->Sem (List (Str×Value)),bindArgs fd ⟨us,[]⟩=seqItems? fd.defaults >>= k/\k (some items)=pure (ps.zip (us++items.toList.drop (us.length+items.toList.length-ps.length))):=by
 obtain⟨name,qual,⟨po,as,va,ko,kd,ka,df⟩,body,scope,glo,cn,dV,kV,doc,pm,an,cdv,ct,bu⟩:=fd;dsimp only at h1 h2 h3 h4 h5 h6;subst h1 h2 h3 h4 h5 h6;generalize hps:as.map (·.arg)=ps at nd l1 l2 l3⊢;have e2:∀ f:Str->Bool,(∀ n ∈ ps.take (ps.length-items.toList.length),f n=false)->(ps.take (ps.length-items.toList.length)).filter f=[]:=λf h=>List.filter_eq_nil_iff.mpr λa ha=>by rw[h a ha];decide
 have e3:¬ (us.length>ps.length):=by omega
 have ez:ps.zip us=(ps.take us.length).zip us:=by
  have:=m8 (A:=ps.take us.length) (B:=ps.drop us.length) (us:=us) (by rw[dL];omega);rw[take_append_drop]at this;exact this
 have e4:=e2 (λn=>((ps.zip us).lookup n).isNone) λn hn=>by
  rw[ez];refine wz (by rw[dL];omega) ?_;have:ps.take (ps.length-items.toList.length)=(ps.take us.length).take (ps.length-items.toList.length):=by rw[List.take_take,Nat.min_eq_left nofun]
  rw[this]at hn;exact List.mem_of_mem_take hn
 have e6:=wX (us:=us) (ds:=items.toList) nd l1 l2 l3;have e5:=qC (us:=us++items.toList.drop (us.length+items.toList.length-ps.length)) nd (by rw[db,le];omega) λ_ _=>rfl
 have e7:items.toList.length-ps.length=0:=by omega
 unfold bindArgs;dsimp only[List.map_nil,nil_append,append_nil];rw[hps];refine⟨_,rfl,?_⟩;simp only[Option.getD_some,List.map_nil,nil_append,e7,drop_zero,e4,e3,List.isEmpty_nil,Bool.not_true,decide_false,Bool.false_and,Bool.false_eq_true,if_false,forIn_nil,append_nil];rw[pI,e6,pure_bind,pure_bind];simp only[e5,List.isEmpty_nil,Bool.not_true,Bool.false_eq_true,if_false]
abbrev BM (x:Option (Option Value))(a:Addr):Bool:=match x with
 |some (some (.ref b))=>b ==a
 |_=>false
variable {x:Option (Option Value)}
def fJ {a:Addr}(h:BM x a=true):x=some (some (.ref a)):=by
 unfold BM at h
 split at h
 .rw[beq_iff_eq.mp h]
 .cases h
abbrev rC (x:Option (Option Value))(a:String):Bool:=match x with
 |some (some (.builtin b))=>b ==a
 |_=>false
variable {a:String}
def bN (h:rC x a=true):x=some (some (.builtin a)):=by
 unfold rC at h
 split at h
 .rw[beq_iff_eq.mp h]
 .cases h
abbrev Ik (x:Option Value)(a:String):Bool:=match x with
 |some (.type b)=>b ==a
 |_=>false
def Dn {x:Option Value}(h:Ik x a=true):x=some (.type a):=by
 unfold Ik at h
 split at h
 .rw[beq_iff_eq.mp h]
 .cases h
abbrev vS (x:Option (Option Value)):Bool:=match x with
 |some none=>true
 |_=>false
def ly (h:vS x=true):x=some none:=by
 unfold vS at h
 split at h
 .rfl
 .cases h
abbrev yO (x:Option Bool)(b:Bool):Bool:=match x with
 |some c=>c ==b
 |none=>false
def d5 {x:Option Bool}{b:Bool}(h:yO x b=true):x=some b:=by
 unfold yO at h
 split at h
 .rw[beq_iff_eq.mp h]
 .cases h
abbrev ID (v:V)(x:Option (Option Value)):Bool:=match v,x with
 | .int i,some (some (.int j _))=>i ==j
 | .str s,some (some (.str s' _))=>s ==s'
 | .ref a,y=>BM y a
 |_,_=>false
def Dr {v:V}(h:ID v x=true):∃ u,x=some (some u)/\RelV v u:=by
 unfold ID at h
 split at h
 .rw[<-beq_iff_eq.mp h];exact⟨_,rfl,_,rfl⟩
 .rw[<-beq_iff_eq.mp h];exact⟨_,rfl,_,rfl⟩
 .rw[fJ h];exact⟨_,rfl,rfl⟩
 .cases h
section
variable (K:Frag) (C:Addr)
abbrev yD:Bool:=plainGet K C Str.empty&&(hasDictIn K C&&(plainOver K C&&rC (findIn K (.ref C) "__setattr__") "object.__setattr__"))
def sQ {K:Frag}{C:Addr}(h:yD K C=true):Ar K C:=by
 unfold yD at h;simp only[mo]at h;exact⟨h.1,h.2.1,h.2.2.1,bN h.2.2.2⟩
abbrev Bb:Bool:=rC (findIn K (.ref C) "__class__") "object.__class__"&&(rC (specialIn K (.builtin "object.__class__") "__get__") "getset_descriptor.__get__"&&yO (takesIn K (.builtin "object.__class__")) true)
abbrev oY:Bool:=Ik (typeIn K (.ref C)) "type"&&((clsIn K C).any (λcd=>dh cd.mro)&&(hasDictIn K C&&(rC (findIn K (.ref C) "__getattribute__") "BaseException.__getattribute__"&&(vS (findIn K (.ref C) "__getattr__")&&rC (findIn K (.ref C) "__setattr__") "object.__setattr__"))))
def jx {K:Frag}{C:Addr}(h:oY K C=true):bS K C:=by
 unfold oY at h;simp only[mo]at h;exact⟨Dn h.1,h.2.1,h.2.2.1,bN h.2.2.2.1,ly h.2.2.2.2.1,bN h.2.2.2.2.2⟩
end
abbrev all2 {α:Type}(l:List α)(p:α->Bool):Bool:=match l with
 | []=>true
 |a::r=>p a&&all2 r p
def aA {α:Type}{p:α->Bool}:∀ {l:List α},all2 l p=true->∀ a ∈ l,p a=true
 | [],_,_,h=>by cases h
 |a::r,h,b,hb=>by
  unfold all2 at h;rw[mo]at h;rcases lw.mp hb with rfl|hb
  .exact h.1
  .exact aA h.2 b hb
abbrev CH (K:Frag)(fs cs:List Addr)(gs:List (Str×V)):Rt:=⟨K,λi=>fs.getD i 0,λi=>cs.getD i 0,λx=>gs.lookup x⟩
section
variable (K:Frag) (T:Tab) (fs cs:List Addr) (gs:List (Str×V))
abbrev Ae:Bool:=
 (all2 T.gfn (λp=>BM (nsIn K mainGlobals p.1) (fs.getD p.2 0)&&(keepIn K (.ref (fs.getD p.2 0))&&(T.fns[p.2]?).isSome))&&
 (all2 T.gcl (λp=>BM (nsIn K mainGlobals p.1) (cs.getD p.2 0))&&
 (all2 T.gbl (λx=>vS (nsIn K mainGlobals x)&& !(x ==("__name__":Str)))&&
 (all2 T.gbi (λx=>match nsIn K mainGlobals x with
  |some (some (.ref B))=>rC (specialIn K (.ref B) "__getattribute__") "type.__getattribute__"&&(readsIn K B (.type "type")&&(match findCls K (.ref B) (.type "type") "__init__" with|some (.val (.builtin n))=>n =="ValueError.__init__"|_=>false))
  |_=>false)&&
 (all2 gs (λp=>ID p.2 (nsIn K mainGlobals p.1))&&
 (all2 T.na (λp=>vS (findIn K (.ref (cs.getD p.1 0)) p.2))&&
 (all2 T.me (λp=>yD K (cs.getD p.1.1 0)&&(BM (findIn K (.ref (cs.getD p.1.1 0)) p.1.2) (fs.getD p.2 0)&&(isFn K (.ref (fs.getD p.2 0))&&(keepIn K (.ref (fs.getD p.2 0))&&(T.fns[p.2]?).isSome)))))))))))&&
 (all2 T.ini0 (λc=>bC K (cs.getD c 0)&&(rC (findIn K (.ref (cs.getD c 0)) "__init__") "ValueError.__init__"&&(keepIn K (.ref (cs.getD c 0))&&oY K (cs.getD c 0))))&&
 (all2 T.inip (λc=>makesIn K (cs.getD c 0)&&(rC (findIn K (.ref (cs.getD c 0)) "__init__") "object.__init__"&&keepIn K (.ref (cs.getD c 0))))&&
 (all2 T.ini (λp=>(T.fns[p.2]?).isSome&&((if T.xc.contains p.1=true then bC K (cs.getD p.1 0) else makesIn K (cs.getD p.1 0))&&(BM (findIn K (.ref (cs.getD p.1 0)) "__init__") (fs.getD p.2 0)&&(isFn K (.ref (fs.getD p.2 0))&&keepIn K (.ref (cs.getD p.1 0))))))&&
 (all2 T.oc (λc=>yD K (cs.getD c 0)&&(Bb K (cs.getD c 0)&&yO (mroIn K (cs.getD c 0) (.type "object")) true))&&
 (all2 T.xc (λc=>oY K (cs.getD c 0)&&Bb K (cs.getD c 0))&&
 (all2 T.sub (λp=>yO (kitOne K (.ref (cs.getD p.1.1 0)) (.ref (cs.getD p.1.2 0))) p.2&&(!T.xc.contains p.1.1||(yO (mroIn K (cs.getD p.1.1 0) (.ref (cs.getD p.1.2 0))) p.2&&oY K (cs.getD p.1.2 0))))&&
 (all2 T.subT (λp=>yO (kitOne K (.ref (cs.getD p.1.1 0)) (.type p.1.2)) p.2)&&
 (all2 T.subB (λp=>yO (kitOne K (.type p.1.1) (.type p.1.2)) p.2)&&
 (all2 T.subO (λp=>yO (kitOne K (.type p.1.1) (.ref (cs.getD p.1.2 0))) p.2)&&
  all2 T.cin (λp=>rC (specialIn K (.ref (cs.getD p.1 0)) "__getattribute__") "type.__getattribute__"&&(readsIn K (cs.getD p.1 0) (.type "type")&&((match findCls K (.ref (cs.getD p.1 0)) (.type "type") "__init__" with|some (.val (.ref f))=>f ==fs.getD p.2 0|_=>false)&&(keepIn K (.ref (fs.getD p.2 0))&&(T.fns[p.2]?).isSome)))))))))))))
end
def jh {α:Type}{x:Option α}(h:x.isSome=true):∃ d,x=some d:=Option.isSome_iff_exists.mp h
variable {K:Frag}{T:Tab}{fs:List Addr}{gs:List (Str×V)}{mg:JW}
def A2 {cs:List Addr}{h:Heap}(X:K.In h)(G:h.Ns mainGlobals mg)(z:Ae K T fs cs gs=true):zx K mg T (CH K fs cs gs):=by
 unfold Ae at z;simp only[mo]at z;obtain⟨⟨z1,z2,z3,z4,z5,z6,z7⟩,z8,z9,z10,z11,z12,z13,z14,z15,z16,z17⟩:=z;exact {
  gfn:=ju λp hp=>by
   have:=aA z1 p hp;simp only[mo]at this;exact⟨mg_of X G (fJ this.1),this.2.1,jh this.2.2⟩
  gcl:=ju λp hp=>mg_of X G (fJ (aA z2 p hp))
  gbl:=hG λx hx=>by
   have:=aA z3 x hx;simp only[mo]at this;exact⟨mg_none_of X G (ly this.1),by simpa using this.2⟩
  gbi:=hG λx hx=>by
   have:=aA z4 x hx
   split at this
   .rename_i B e;simp only[mo]at this;refine⟨B,mg_of X G e,bN this.1,this.2.1,?_⟩;have t:=this.2.2
    split at t
    .rename_i n e2;rw[e2,beq_iff_eq.mp t]
    .cases t
   .cases this
  gl:=ju λp hp=>by
   obtain⟨u,e,r⟩:=Dr (aA z5 p hp);exact⟨u,mg_of X G e,r⟩
  na:=yQ λp hp=>ly (aA z6 p hp)
  me:=gy λp hp=>by
   have:=aA z7 p hp;simp only[mo]at this;exact⟨sQ this.1,⟨fJ this.2.1,this.2.2.1,this.2.2.2.1⟩,jh this.2.2.2.2⟩
  ini0:=hG λc hc=>by
   have:=aA z8 c hc;simp only[mo]at this;exact⟨this.1,bN this.2.1,this.2.2.1,jx this.2.2.2⟩
  inip:=hG λc hc=>by
   have:=aA z9 c hc;simp only[mo]at this;exact⟨this.1,bN this.2.1,this.2.2⟩
  ini:=ju λp hp=>by
   have:=aA z10 p hp;simp only[mo]at this;refine⟨jh this.1,?_⟩;have t:=this.2
   by_cases e:T.xc.contains p.1=true
   .rw[if_pos e]at t⊢;exact⟨t.1,fJ t.2.1,t.2.2.1,t.2.2.2⟩
   .rw[if_neg e]at t⊢;exact⟨t.1,fJ t.2.1,t.2.2.1,t.2.2.2⟩
  oc:=hG λc hc=>by
   have:=aA z11 c hc;simp only[Bb,mo]at this;exact⟨sQ this.1,bN this.2.1.1,bN this.2.1.2.1,d5 this.2.1.2.2,d5 this.2.2⟩
  xc:=hG λc hc=>by
   have:=aA z12 c hc;simp only[Bb,mo]at this;exact⟨jx this.1,bN this.2.1,bN this.2.2.1,d5 this.2.2.2⟩
  sub:=gy λp hp=>by
   have:=aA z13 p hp;simp only[mo]at this;refine⟨d5 this.1,λe=>?_⟩;have t:=this.2;rw[e,Bool.not_true,Bool.false_or,mo]at t;exact⟨d5 t.1,jx t.2⟩
  subT:=gy λp hp=>d5 (aA z14 p hp)
  subB:=gy λp hp=>d5 (aA z15 p hp)
  subO:=gy λp hp=>d5 (aA z16 p hp)
  cin:=ju λp hp=>by
   have:=aA z17 p hp;simp only[mo]at this;refine⟨⟨bN this.1,this.2.1,?_,this.2.2.2.1⟩,jh this.2.2.2.2⟩;have t:=this.2.2.1
   split at t
   .rename_i f e2;rw[beq_iff_eq.mp t]at e2;exact e2
   .cases t }
abbrev Hg:List Str->Bool
 | []=>true
 |a::r=>!r.contains a&&Hg r
def vX:∀ {l:List Str},Hg l=true->l.Nodup
 | [],_=>List.nodup_nil
 |a::r,h=>by
  unfold Hg at h;rw[mo]at h;exact nodup_cons.mpr ⟨by simpa using h.1,vX h.2⟩
abbrev HN (N P:List Str)(sc:Scope):Bool:=decide (sc.kind=.function)&&(!sc.isCoroutine&&(!sc.isGenerator&&(Hg N&&(N.take P.length ==P&&(all2 P (λx=>match sc.names.lookup x with|some .local=>true|some .cell=>true|_=>false)&&all2 sc.names (λy=>match y.2 with| .free=>false|_=>true))))))
def qx {N P:List Str}{sc:Scope}(h:HN N P sc=true):jc N P sc:=by
 unfold HN at h;simp only[mo,decide_eq_true_eq]at h;refine⟨h.1,by simpa using h.2.1,by simpa using h.2.2.1,vX h.2.2.2.1,beq_iff_eq.mp h.2.2.2.2.1,λx hx=>?_,λy hy e=>?_⟩
 .have:=aA h.2.2.2.2.2.1 x hx
  split at this
  .rename_i e;exact .inl e
  .rename_i e;exact .inr e
  .cases this
 .have:=aA h.2.2.2.2.2.2 y hy;rw[e]at this;cases this
abbrev Hq:V->Value->Bool
 | .non,.none=>true
 | .bl b,.bool c=>b ==c
 | .int i,.int j _=>i ==j
 | .str s,.str s' _=>s ==s'
 |_,_=>false
def C1 {v:V}{u:Value}(h:Hq v u=true):RelV v u:=by
 unfold Hq at h
 split at h
 .rfl
 .rw[beq_iff_eq.mp h];rfl
 .rw[beq_iff_eq.mp h];exact⟨_,rfl⟩
 .rw[beq_iff_eq.mp h];exact⟨_,rfl⟩
 .cases h
abbrev xN:List V->List Value->Bool
 | [],[]=>true
 |v::vs,u::us=>Hq v u&&xN vs us
 |_,_=>false
def mZ:∀ {vs:List V}{us:List Value},xN vs us=true->Vals vs us
 | [],[],_=>.nil
 |v::vs,u::us,h=>by
  unfold xN at h;rw[mo]at h;exact .cons (C1 h.1) (mZ h.2)
 | [],_::_,h=>by cases h
 |_::_,[],h=>by cases h
abbrev HU (K:Frag)(fd:FuncData)(d:ay):Bool:=match fd.defaults with
 | .none=>d.dfl.isEmpty
 | .ref T=>!d.dfl.isEmpty&&(match K.lookup T with
  |some o=>(match o.data with| .seq items _=>xN d.dfl items.toList&&decide (items.toList.length<=d.ps.length)|_=>false)
  |none=>false)
 |_=>false
abbrev Bu (K:Frag)(T:Tab)(f:Addr)(d:ay):Bool:=match K.lookup f with
 |some ⟨_,_,.func fd,_⟩=>(match fd.body with
  | .stmts body=>decide (fd.globals=mainGlobals)&&(fd.closure.isEmpty&&(decide (fd.builtins=builtinsNs)&&(codeIn K fd.code fd.qualname&&(HN d.N d.ps fd.scope&&(mB ⟨T,fd.scope,d.N⟩ d.body body&&
   (fd.params.posonlyargs.isEmpty&&(fd.params.args.map (·.arg) ==d.ps&&(fd.params.kwonlyargs.isEmpty&&(fd.params.vararg.isNone&&(fd.params.kwarg.isNone&&HU K fd d))))))))))
  |_=>false)
 |_=>false
variable {d:ay}
def CC {f:Addr}(h:Bu K T f d=true):ua K T f d:=by
 unfold Bu at h
 split at h
 .rename_i oc od fd sl e;obtain⟨name,qual,params,body,scope,glo,cn,dV,kV,doc,pm,an,cdv,ct,bu⟩:=fd;dsimp only at h
  split at h
  .rename_i body;simp only[mo,decide_eq_true_eq,isEmpty_iff,Option.isNone_iff_eq_none]at h;obtain⟨h1,h2,h3,h4,h5,h6,h7,h8,h9,h10,h11,h12⟩:=h;subst h1 h2 h3;have S:=qx h5;have nd:d.ps.Nodup:=by
    rw[<-S.pre];exact S.nd.sublist (take_sublist _ _)
   refine⟨⟨name,qual,params,body,scope,dV,kV,doc,pm,cdv,ct,oc,od,an,sl,e,h4,S,h6,?_⟩⟩;unfold HU at h12;dsimp only at h12
   split at h12
   .rw[isEmpty_iff.mp h12];exact CD (.all λus hl=>nV nd h7 (beq_iff_eq.mp h8) h9 h10 h11 rfl us hl)
   .rename_i T0;rw[mo]at h12;have h12:=h12.2
    split at h12
    .rename_i o ho
     split at h12
     .rename_i items c hs;rw[mo,decide_eq_true_eq]at h12;intro j;refine⟨items.toList.drop j,?_,kR j (mZ h12.1)⟩;refine yT (n:=d.ps.length-(items.toList.drop j).length) rfl ho hs (by rw[le];omega) λus hl=>?_
      rw[le]at hl;obtain⟨k,k1,k2⟩:=xJ (fd:=fnOf name qual params body scope (.ref T0) kV doc pm an cdv ct) (items:=items) nd h7 (beq_iff_eq.mp h8) h9 h10 h11 rfl us nofun h12.2 nofun;refine⟨k,k1,?_⟩;rw[k2]
      by_cases e:j<=items.toList.length
      .rw[show us.length+items.toList.length-d.ps.length=j by omega]
      .rw[show us.length+items.toList.length-d.ps.length=items.toList.length by omega,List.drop_length,List.drop_eq_nil_of_le (by omega:items.toList.length<=j)]
     .cases h12
    .cases h12
   .cases h12
  .cases h
 .cases h
abbrev kg (K:Frag)(T:Tab)(fs:List Addr):Nat->List ay->Bool
 |_,[]=>true
 |n,d::r=>Bu K T (fs.getD n 0) d&&kg K T fs (n+1) r
def rZ {K:Frag}{T:Tab}{fs:List Addr}:∀ {l:List ay}{n:Nat},kg K T fs n l=true->rj (λf d=>ua K T (fs.getD f 0) d) n l
 | [],_,_=>True.intro
 |d::r,n,h=>by
  unfold kg at h;rw[mo]at h;exact⟨CC h.1,rZ h.2⟩
def zM (h:kg K T fs 0 T.fns=true):∀ f d,T.fns[f]? =some d->ua K T (fs.getD f 0) d:=qq (P:=λf d=>ua K T (fs.getD f 0) d) (rZ h)
def sR {K:Frag}{T:Tab}{fs:List Addr}:∀ {l:List ay}{n f:Nat}{d:ay},kg K T fs n l=true->l[f]? =some d->Bu K T (fs.getD (n+f) 0) d=true
 | [],_,_,_,_,e=>by simp at e
 |a::r,n,0,d,h,e=>by
  unfold kg at h;rw[mo]at h;have:a=d:=by simpa using e
  subst this;exact h.1
 |a::r,n,f+1,d,h,e=>by
  unfold kg at h;rw[mo]at h;have:=sR h.2 (f:=f) (d:=d) (by simpa using e)
  rwa [Nat.add_assoc,Nat.add_comm 1 f]at this
def yP {fl:Nat}(z:kg K T fs 0 T.fns=true)(hd:T.fns[fl]? =some d)(hp:d.ps=[("_law_script":Str)]) (hf:d.dfl=[]):
  ∃ oc od fd sl,K.lookup (fs.getD fl 0)=some ⟨oc,od,.func fd,sl⟩/\∀ (s:Shared) (v:Value),BindsTo s fd ⟨[v],[]⟩ [("_law_script",v)]:=by
 have h:=sR z hd;rw[Nat.zero_add]at h;unfold Bu at h
 split at h
 .rename_i oc od fd sl e;refine⟨oc,od,fd,sl,e,λs v=>?_⟩
  split at h
  .rename_i body hb;simp only[mo,decide_eq_true_eq,isEmpty_iff,Option.isNone_iff_eq_none]at h;obtain⟨h1,h2,h3,h4,h5,h6,h7,h8,h9,h10,h11,h12⟩:=h;have nd:d.ps.Nodup:=by
    rw[<-(qx h5).pre];exact(qx h5).nd.sublist (take_sublist _ _)
   unfold HU at h12;rw[hf]at h12;have e6:fd.defaults=.none:=by
    split at h12
    .rename_i e;exact e
    .rw[mo]at h12;cases h12.1
    .cases h12
   have:=nV nd h7 (beq_iff_eq.mp h8) h9 h10 h11 e6 [v] (by rw[hp];rfl);rw[hp]at this;exact .of_eq this
  .cases h
 .cases h
def Bh {P:Program}{w:World}{h:Heap}{fa:Addr}{cs:List Addr}{fl k:Nat}(X:K.In h)(G:h.Ns mainGlobals mg)(hfa:mg "law"=some (.ref fa))
  (z1:Ae K T fs cs gs=true) (z2:kg K T fs 0 T.fns=true) (z3:BM (nsIn K mainGlobals "law") (fs.getD fl 0)=true) (hd:T.fns[fl]? =some d) (hp:d.ps=[("_law_script":Str)]) (hf:d.dfl=[])
  (ht:∀ vs H Q E,iP K 63 vs H Q E->ae T (CH K fs cs gs) k fl vs H Q E):
  ∃ fd:FuncData,(∀ (s:Shared) (v:Value),BindsTo s fd ⟨[v],[]⟩ [("_law_script",v)])/\∀ base:Heap,K.In base->base.Ns mainGlobals mg->cT P w K mg base (xb P w) (2*k) fa fd ["_law_script"] (iP K 63):=by
 have e0:fs.getD fl 0=fa:=by
  have e:=hfa.symm.trans (mg_of X G (fJ z3))
  injection e with e
  injection e with e
  exact e.symm
 have fn:=zM z2;have tk:=A2 X G z1;have N:=fn fl d hd;have hN:=yP z2 hd;obtain⟨oc,od,fd,sl,e,hb⟩:=hN hp hf;refine⟨fd,hb,λbase hb hg=>?_⟩;have F:=Ec (P:=P) (w:=w) (base:=base) (R:=CH K fs cs gs) tk rfl fn k fl d hd (fd:=fd) (lk:=e) (pw▸ht);rw[hp]at F;rw[<-e0];exact F
abbrev IP (K:Frag)(a:Addr)(vs:List V):Bool:=match K.lookup a with
 |some ⟨.type t,_,.seq items _,_⟩=>t =="tuple"&&(decide (items.size<=1000)&&xN vs items.toList)
 |_=>false
def Ct {a:Addr}{vs:List V}(h:IP K a vs=true)(H:Hp):a5 K H a vs:=by
 unfold IP at h
 split at h
 .rename_i t od items n sl e;simp only[mo,decide_eq_true_eq]at h;refine .inr ⟨_,items,n,e,?_,rfl,?_,mZ h.2.2⟩
  .show Value.type t=_;rw[beq_iff_eq.mp h.1]
  .exact Nat.le_of_lt (cS h.2.1)
 .cases h
end L3
namespace L3
open PySem L2
noncomputable abbrev fw.c (e:Ex)(r:fw):fw:=.cons e r
noncomputable abbrev fw.n:fw:=.nil
noncomputable abbrev j7.c (e:Sx)(r:j7):j7:=.cons e r
noncomputable abbrev j7.n:j7:=.nil
noncomputable abbrev yl.c (a b:Nat)(e:j7)(r:yl):yl:=.cons a b e r
noncomputable abbrev yl.n:yl:=.nil
noncomputable abbrev Ex.i (x:Int):Ex:=.int x
noncomputable abbrev Ex.s (x:Str):Ex:=.str x
noncomputable abbrev Ex.k (x:Nat)(e:fw):Ex:=.call x e
noncomputable abbrev Ex.m (a:Ex)(x:Str)(e:fw):Ex:=.meth a x e
noncomputable abbrev Ex.f (c:Tx)(a b:Ex):Ex:=.ife c a b
noncomputable abbrev Ex.q (o:CmpOp)(a b:Ex):Ex:=.cmp o a b
noncomputable abbrev Tx.q (o:CmpOp)(a b:Ex):Tx:=.cmp o a b
noncomputable abbrev Sx.a (x:Nat)(e:Ex):Sx:=.asg x e
noncomputable abbrev Sx.r (e:Ex):Sx:=.ret e
noncomputable abbrev Sx.f (c:Tx)(a b:j7):Sx:=.ife c a b
noncomputable abbrev Sx.e (e:Ex):Sx:=.expr e
end L3
set_option Elab.async false
set_option maxHeartbeats 8000000
open PySem PySem.Spec L2 L3
namespace My
open PySem L2 L3
set_option hygiene false
local macro_rules|`(#[])=>`(.n)|`(#[$x:term])=>`(.c $x .n)|`(#[$x:term,$xs:term,*])=>`(.c $x #[$xs,*])
set_option hygiene true
abbrev fP:ay:=⟨["self","word"],["self","word"],[],#[.e (.bini #[.v 0,.s "a deed can't be made of this"]),.fld (.v 0) "word" (.v 1)]⟩
abbrev gH:ay:=⟨["self","word"],["self","word"],[],#[.e (.bini #[.v 0,.s "no name, or a name that is taken or unknown"]),.fld (.v 0) "word" (.v 1)]⟩
abbrev fN:ay:=⟨["self","many"],["self","many"],[],#[.e (.bini #[.v 0,.s "none or too many deeds, laid flat"]),.fld (.v 0) "many" (.v 1)]⟩
abbrev bZ:ay:=⟨["self","at"],["self","at"],[],#[.e (.bini #[.v 0,.s "a word that can't stand where it stands"]),.fld (.v 0) "at" (.v 1)]⟩
abbrev gJ:ay:=⟨["self","row"],["self","row"],[],#[.e (.bini #[.v 0,.s "no row that a desk knows"]),.fld (.v 0) "row" (.v 1)]⟩
abbrev jr:ay:=⟨["thing"],["thing"],[],#[.r (.and (.isi (.v 0) (.ty "int")) (.not (.isi (.v 0) (.ty "bool"))))]⟩
abbrev nP:ay:=⟨["thing"],["thing"],[],#[.r (.and (.isi (.v 0) (.ty "str")) (.q .In (.v 0) (.gl "NAMES")))]⟩
abbrev iG:ay:=⟨["thing"],["thing"],[],#[.r (.and (.k 5 #[.v 0]) (.cmp2 .LtE .LtE (.neg (.gl "BOUND")) (.v 0) (.gl "BOUND")))]⟩
abbrev iD:ay:=⟨["word","box"],["word","box"],[],#[.f (.not (.val (.k 6 #[.v 1]))) #[.rais (.make 1 #[.v 0])] .n]⟩
abbrev dM:ay:=⟨["word","number"],["word","number"],[],#[.f (.not (.val (.k 7 #[.v 1]))) #[.rais (.make 1 #[.v 0])] .n]⟩
abbrev dC:ay:=⟨["self","box","number"],["self","box","number"],[],#[.e (.k 8 #[.s "set",.v 1]),.e (.k 9 #[.s "set",.v 2]),.fld (.v 0) "box" (.v 1),.fld (.v 0) "number" (.v 2)]⟩
abbrev iz:ay:=⟨["self"],["self"],[],#[.r (.lst #[.s "set",.fld (.v 0) "box",.bf .str #[.fld (.v 0) "number"]])]⟩
abbrev dF:ay:=⟨["self","box","number"],["self","box","number"],[],#[.e (.k 8 #[.s "add",.v 1]),.e (.k 9 #[.s "add",.v 2]),.fld (.v 0) "box" (.v 1),.fld (.v 0) "number" (.v 2)]⟩
abbrev iZ:ay:=⟨["self"],["self"],[],#[.r (.lst #[.s "add",.fld (.v 0) "box",.bf .str #[.fld (.v 0) "number"]])]⟩
abbrev dn:ay:=⟨["self","box","other"],["self","box","other"],[],#[.e (.k 8 #[.s "take",.v 1]),.e (.k 8 #[.s "take",.v 2]),.fld (.v 0) "box" (.v 1),.fld (.v 0) "other" (.v 2)]⟩
abbrev fX:ay:=⟨["self"],["self"],[],#[.r (.lst #[.s "take",.fld (.v 0) "box",.fld (.v 0) "other"])]⟩
abbrev dm:ay:=⟨["self","box"],["self","box"],[],#[.e (.k 8 #[.s "read",.v 1]),.fld (.v 0) "box" (.v 1)]⟩
abbrev f7:ay:=⟨["self"],["self"],[],#[.r (.lst #[.s "read",.fld (.v 0) "box"])]⟩
abbrev cO:ay:=⟨["self","box"],["self","box"],[],#[.e (.k 8 #[.s "write",.v 1]),.fld (.v 0) "box" (.v 1)]⟩
abbrev eU:ay:=⟨["self"],["self"],[],#[.r (.lst #[.s "write",.fld (.v 0) "box"])]⟩
abbrev kL:ay:=⟨["thing"],["thing"],[],#[.r (.and (.k 5 #[.v 0]) (.cmp2 .LtE .LtE (.i 0) (.v 0) (.gl "MOST_HOPPED")))]⟩
abbrev sL:ay:=⟨["thing"],["thing"],[],#[.r (.or (.q .Is (.v 0) .non) (.and (.k 5 #[.v 0]) (.or (.q .Eq (.v 0) (.i 0)) (.q .Eq (.v 0) (.i 1)))))]⟩
abbrev dX:ay:=⟨["self","many","on"],["self","many","on"],[.non],#[.f (.or (.not (.val (.k 20 #[.v 1]))) (.not (.val (.k 21 #[.v 2])))) #[.rais (.make 1 #[.s "hop"])] .n,.fld (.v 0) "many" (.v 1),.fld (.v 0) "on" (.v 2)]⟩
abbrev iS:ay:=⟨["self"],["self","told"],[],#[.a 1 (.lst #[.s "hop",.bf .str #[.fld (.v 0) "many"]]),.f (.q .IsNot (.fld (.v 0) "on") .non) #[.e (.lm .extend (.v 1) #[.lst #[.s "if",.bf .str #[.fld (.v 0) "on"]]])] .n,.r (.v 1)]⟩
abbrev eY:ay:=⟨["self","name"],["self","name"],[],#[.fld (.v 0) "called" (.v 1)]⟩
abbrev kA:ay:=⟨["self"],["self"],[],#[.r (.tup #[.s "do",.fld (.v 0) "called"])]⟩
abbrev cK:ay:=⟨["self","many","block"],["self","many","block"],[],#[.fld (.v 0) "many" (.v 1),.fld (.v 0) "block" (.bf .list #[.v 2])]⟩
abbrev c5:ay:=⟨["self"],["self"],[],#[.r (.tup #[.s "times",.fld (.v 0) "many",.bf .list #[.fld (.v 0) "block"]])]⟩
abbrev bG:ay:=⟨["self","on","block","other"],["self","on","block","other"],[.non],#[.fld (.v 0) "on" (.v 1),.fld (.v 0) "block" (.bf .list #[.v 2]),.fld (.v 0) "other" (.f (.q .Is (.v 3) .non) (.lst .n) (.bf .list #[.v 3]))]⟩
abbrev bW:ay:=⟨["self"],["self"],[],#[.r (.tup #[.s "when",.fld (.v 0) "on",.bf .list #[.fld (.v 0) "block"],.bf .list #[.fld (.v 0) "other"]])]⟩
abbrev fQ:ay:=⟨["self"],["self"],[],#[.r (.lst #[.s "copy"])]⟩
abbrev fS:ay:=⟨["self"],["self"],[],#[.r (.lst #[.s "fill"])]⟩
abbrev fV:ay:=⟨["self"],["self"],[],#[.r (.lst #[.s "seek"])]⟩
abbrev fe:ay:=⟨["self"],["self"],[],#[.r (.lst #[.s "match"])]⟩
abbrev eX:ay:=⟨["self"],["self"],[],#[.r (.lst #[.s "shift"])]⟩
abbrev fW:ay:=⟨["self"],["self"],[],#[.r (.lst #[.s "turn"])]⟩
abbrev gR:ay:=⟨["thing"],["thing"],[],#[.f (.or (.not (.val (.isi (.v 0) (.ty "str")))) (.not (.cmp2 .LtE .LtE (.i 1) (.bf .len #[.v 0]) (.gl "LONGEST_NAME")))) #[.r (.bl false)] .n,.r (.bf .all #[.lc (.q .In (.v 0) (.gl "LETTERS")) [] (.seq (.v 0))])]⟩
abbrev cW:ay:=⟨["word"],["word","figures"],[],#[.a 1 (.f (.val (.sm .starts (.v 0) (.s "-"))) (.sl (.v 0) (.yes (.i 1)) .no) (.v 0)),.f (.not (.cmp2 .LtE .LtE (.i 1) (.bf .len #[.v 1]) (.gl "MOST_FIGURES"))) #[.r (.bl false)] .n,.f (.not (.val (.bf .all #[.lc (.q .In (.v 0) (.gl "FIGURES")) [] (.seq (.v 1))]))) #[.r (.bl false)] .n,.r (.or (.q .Eq (.v 0) (.s "0")) (.not (.sm .starts (.v 1) (.s "0"))))]⟩
abbrev dA:ay:=⟨["word"],["word"],[],#[.r (.f (.and (.q .IsNot (.v 0) .non) (.val (.k 37 #[.v 0]))) (.bf .int #[.v 0]) .non)]⟩
abbrev a7:ay:=⟨["self","text"],["self","text"],[],#[.f (.not (.val (.isi (.v 1) (.ty "str")))) #[.rais (.make 4 #[.neg (.i 1)])] .n,.fld (.v 0) "queue" (.sm .split (.v 1) (.s " ")),.fld (.v 0) "at" (.i 0)]⟩
abbrev dz:ay:=⟨["self"],["self"],[],#[.r (.f (.q .Lt (.fld (.v 0) "at") (.bf .len #[.fld (.v 0) "queue"])) (.ix (.fld (.v 0) "queue") (.fld (.v 0) "at")) .non)]⟩
abbrev cj:ay:=⟨["self","stands"],["self","stands","word"],[],#[.f (.not (.val (.v 1))) #[.rais (.make 4 #[.fld (.v 0) "at"])] .n,.a 2 (.ix (.fld (.v 0) "queue") (.fld (.v 0) "at")),.augF (.v 0) "at" .Add (.i 1),.r (.v 2)]⟩
abbrev dG:ay:=⟨["self","word"],["self","word"],[],#[.f (.q .NotEq (.m (.v 0) "ahead" .n) (.v 1)) #[.r (.bl false)] .n,.augF (.v 0) "at" .Add (.i 1),.r (.bl true)]⟩
abbrev bO:ay:=⟨["self","word"],["self","word"],[],#[.r (.m (.v 0) "take" #[.q .Eq (.m (.v 0) "ahead" .n) (.v 1)])]⟩
abbrev bR:ay:=⟨["self"],["self"],[],#[.r (.m (.v 0) "take" #[.k 36 #[.m (.v 0) "ahead" .n]])]⟩
abbrev cf:ay:=⟨["self"],["self"],[],#[.r (.m (.v 0) "take" #[.k 6 #[.m (.v 0) "ahead" .n]])]⟩
abbrev bD:ay:=⟨["self","low","high"],["self","low","high","number"],[],#[.a 3 (.k 38 #[.m (.v 0) "ahead" .n]),.e (.m (.v 0) "take" #[.and (.q .IsNot (.v 3) .non) (.cmp2 .LtE .LtE (.v 1) (.v 3) (.v 2))]),.r (.v 3)]⟩
abbrev d6:ay:=⟨["self"],["self"],[],#[.r (.q .Eq (.fld (.v 0) "at") (.bf .len #[.fld (.v 0) "queue"]))]⟩
abbrev dq:ay:=⟨["self"],["self"],[],#[.f (.not (.val (.m (.v 0) "ended" .n))) #[.rais (.make 4 #[.fld (.v 0) "at"])] .n]⟩
abbrev cI:ay:=⟨["reader"],["reader"],[],#[.f (.val (.m (.v 0) "skips" #[.s "copy"])) #[.r (.mk0 16)] .n,.f (.val (.m (.v 0) "skips" #[.s "fill"])) #[.r (.mk0 17)] .n,.f (.val (.m (.v 0) "skips" #[.s "seek"])) #[.r (.mk0 18)] .n,.f (.val (.m (.v 0) "skips" #[.s "match"])) #[.r (.mk0 19)] .n,.f (.val (.m (.v 0) "skips" #[.s "shift"])) #[.r (.mk0 20)] .n,.e (.m (.v 0) "take_word" #[.s "turn"]),.r (.mk0 21)]⟩
abbrev jT:ay:=⟨["reader"],["reader","many"],[],#[.a 1 (.m (.v 0) "take_number" #[.i 0,.gl "MOST_HOPPED"]),.f (.val (.m (.v 0) "skips" #[.s "if"])) #[.r (.make 12 #[.v 1,.m (.v 0) "take_number" #[.i 0,.i 1]])] .n,.r (.make 12 #[.v 1])]⟩
abbrev iK:ay:=⟨["reader"],["reader"],[],#[.f (.val (.m (.v 0) "skips" #[.s "set"])) #[.r (.make 7 #[.m (.v 0) "take_box" .n,.m (.v 0) "take_number" #[.neg (.gl "BOUND"),.gl "BOUND"]])] .n,.f (.val (.m (.v 0) "skips" #[.s "add"])) #[.r (.make 8 #[.m (.v 0) "take_box" .n,.m (.v 0) "take_number" #[.neg (.gl "BOUND"),.gl "BOUND"]])] .n,.f (.val (.m (.v 0) "skips" #[.s "take"])) #[.r (.make 9 #[.m (.v 0) "take_box" .n,.m (.v 0) "take_box" .n])] .n,.f (.val (.m (.v 0) "skips" #[.s "read"])) #[.r (.make 10 #[.m (.v 0) "take_box" .n])] .n,.f (.val (.m (.v 0) "skips" #[.s "write"])) #[.r (.make 11 #[.m (.v 0) "take_box" .n])] .n,.f (.val (.m (.v 0) "skips" #[.s "hop"])) #[.r (.k 50 #[.v 0])] .n,.r (.k 49 #[.v 0])]⟩
abbrev iN:ay:=⟨["reader","depth"],["reader","depth","on","block"],[],#[.a 2 (.m (.v 0) "take_number" #[.i 0,.i 1]),.a 3 (.k 54 #[.v 0,.v 1]),.f (.val (.m (.v 0) "skips" #[.s "else"])) #[.r (.make 15 #[.v 2,.v 3,.k 54 #[.v 0,.v 1]])] .n,.r (.make 15 #[.v 2,.v 3])]⟩
abbrev iW:ay:=⟨["reader","depth"],["reader","depth"],[],#[.f (.val (.m (.v 0) "skips" #[.s "do"])) #[.r (.make 13 #[.m (.v 0) "take_name" .n])] .n,.f (.val (.m (.v 0) "skips" #[.s "times"])) #[.r (.make 14 #[.m (.v 0) "take_number" #[.i 0,.gl "MOST_TIMES"],.k 54 #[.v 0,.bin .Add (.v 1) (.i 1)]])] .n,.f (.val (.m (.v 0) "skips" #[.s "when"])) #[.r (.k 52 #[.v 0,.bin .Add (.v 1) (.i 1)])] .n,.r (.k 51 #[.v 0])]⟩
abbrev bJ:ay:=⟨["reader","depth"],["reader","depth","items"],[],#[.f (.q .Gt (.v 1) (.gl "DEEPEST")) #[.rais (.make 4 #[.fld (.v 0) "at"])] .n,.e (.m (.v 0) "take_word" #[.s "("]),.f (.val (.m (.v 0) "skips" #[.s ")"])) #[.r (.lst .n)] .n,.a 2 (.lst #[.k 53 #[.v 0,.v 1]]),.whl (.and (.q .Lt (.bf .len #[.v 2]) (.gl "MOST_ITEMS")) (.val (.m (.v 0) "skips" #[.s ";"]))) #[.e (.lm .append (.v 2) #[.k 53 #[.v 0,.v 1]])],.e (.m (.v 0) "take_word" #[.s ")"]),.r (.v 2)]⟩
abbrev gA:ay:=⟨["reader"],["reader"],[],#[.r (.k 54 #[.v 0,.i 1])]⟩
abbrev c8:ay:=⟨["text"],["text","reader","block"],[],#[.a 1 (.make 22 #[.v 0]),.a 2 (.k 55 #[.v 1]),.e (.m (.v 1) "finish" .n),.r (.v 2)]⟩
abbrev gd:ay:=⟨["when"],["when","told"],[],#[.a 1 (.bin .Add (.lst #[.s "when",.bf .str #[.fld (.v 0) "on"]]) (.k 59 #[.fld (.v 0) "block"])),.f (.q .Gt (.bf .len #[.fld (.v 0) "other"]) (.i 0)) #[.e (.lm .append (.v 1) #[.s "else"]),.e (.lm .extend (.v 1) #[.k 59 #[.fld (.v 0) "other"]])] .n,.r (.v 1)]⟩
abbrev gI:ay:=⟨["item"],["item"],[],#[.f (.val (.isi (.v 0) (.own 13))) #[.r (.lst #[.s "do",.fld (.v 0) "called"])] .n,.f (.val (.isi (.v 0) (.own 14))) #[.r (.bin .Add (.lst #[.s "times",.bf .str #[.fld (.v 0) "many"]]) (.k 59 #[.fld (.v 0) "block"]))] .n,.f (.val (.isi (.v 0) (.own 15))) #[.r (.k 57 #[.v 0])] .n,.r (.m (.v 0) "words" .n)]⟩
abbrev cB:ay:=⟨["block"],["block","told","place","item"],[],#[.a 1 (.lst #[.s "("]),.for (.tp [2,3]) (.enm (.v 0)) #[.f (.q .Gt (.v 2) (.i 0)) #[.e (.lm .append (.v 1) #[.s ";"])] .n,.e (.lm .extend (.v 1) #[.k 58 #[.v 3]])],.e (.lm .append (.v 1) #[.s ")"]),.r (.v 1)]⟩
abbrev gw:ay:=⟨["block"],["block"],[],#[.r (.sm .join (.s " ") (.k 59 #[.v 0]))]⟩
abbrev iH:ay:=⟨["_law_script"],["_law_script","_law_cells","_law_fold","_law_cell"],[],#[.a 1 (.bf .list #[.sl (.v 0) .no (.yes (.i 63))]),.a 2 (.bf .len #[.v 1]),.for (.nm 3) (.seq (.v 1)) #[.a 2 (.bin .Mod (.bin .Add (.bin .Add (.bin .Mult (.v 2) (.i 48271)) (.bin .Mod (.v 3) (.i 2147483647))) (.i 1)) (.i 2147483629))],.r (.lst #[.v 1,.v 2,.i 0,.i 0,.i 0])]⟩
abbrev iT:ay:=⟨["_law_hand_here","_law_many"],["_law_hand_here","_law_many","_law_rest","_law_cell","_law_one","_law_two"],[],#[.augS (.v 0) (.i 4) .Add (.i 1),.a 2 (.ix (.v 0) (.i 3)),.a 3 (.ix (.v 0) (.i 1)),.f (.q .Gt (.v 2) (.i 0)) #[.sub (.v 0) (.i 3) (.bin .FloorDiv (.v 2) (.v 1)),.r (.bin .Mod (.v 2) (.v 1))] .n,.f (.q .Lt (.ix (.v 0) (.i 2)) (.bf .len #[.ix (.v 0) (.i 0)])) #[.a 3 (.ix (.ix (.v 0) (.i 0)) (.ix (.v 0) (.i 2))),.augS (.v 0) (.i 2) .Add (.i 1),.f (.q .GtE (.v 3) (.bin .Pow (.i 10) (.i 18))) #[.sub (.v 0) (.i 3) (.bin .FloorDiv (.v 3) (.v 1)),.r (.bin .Mod (.v 3) (.v 1))] .n] .n,.a 4 (.bin .Mod (.bin .Pow (.bin .Add (.bin .Mod (.v 3) (.i 998244353)) (.bin .Mult (.i 7919) (.ix (.v 0) (.i 4)))) (.i 5)) (.i 2147483647)),.a 5 (.bin .Mod (.bin .Pow (.bin .Add (.bin .Add (.v 4) (.bin .Mult (.i 104729) (.ix (.v 0) (.i 4)))) (.ix (.v 0) (.i 1))) (.i 3)) (.i 2147483629)),.r (.bin .Mod (.bin .FloorDiv (.v 5) (.i 7)) (.v 1))]⟩
abbrev iy:ay:=⟨["_law_hand_here","_law_size"],["_law_hand_here","_law_size","_law_way","_law_names","_law_box","_law_pick"],[],#[.a 2 (.k 62 #[.v 0,.i 14]),.a 3 (.lst #[.s "here",.s "there",.s "left",.s "way",.s "sign",.s "met"]),.a 4 (.ix (.v 3) (.k 62 #[.v 0,.i 6])),.f (.q .Lt (.v 2) (.i 6)) #[.r (.tup #[.ix (.lst #[.s "copy",.s "fill",.s "seek",.s "match",.s "shift",.s "turn"]) (.v 2)])] .n,.f (.q .Lt (.v 2) (.i 9)) #[.a 4 (.ix (.lst #[.s "here",.s "there",.s "left",.v 4]) (.k 62 #[.v 0,.i 4])),.a 5 (.bin .FloorDiv (.k 62 #[.v 0,.i 8]) (.i 3)),.r (.tup #[.s "set",.v 4,.ix (.lst #[.k 62 #[.v 0,.bin .Add (.v 1) (.i 1)],.bin .Sub (.k 62 #[.v 0,.i 5]) (.i 2),.bin .Sub (.bin .Pow (.i 10) (.i 9)) (.k 62 #[.v 0,.i 2])]) (.v 5)])] .n,.f (.q .Eq (.v 2) (.i 9)) #[.a 5 (.bin .FloorDiv (.k 62 #[.v 0,.i 7]) (.i 3)),.r (.tup #[.s "add",.v 4,.ix (.lst #[.bin .Sub (.k 62 #[.v 0,.i 7]) (.i 3),.k 62 #[.v 0,.bin .Add (.v 1) (.i 1)],.neg (.bin .Pow (.i 10) (.i 9))]) (.v 5)])] .n,.f (.q .Eq (.v 2) (.i 10)) #[.r (.tup #[.s "take",.v 4,.ix (.v 3) (.k 62 #[.v 0,.i 6])])] .n,.f (.q .Lt (.v 2) (.i 13)) #[.r (.tup #[.ix (.lst #[.s "read",.s "write"]) (.bin .Sub (.v 2) (.i 11)),.v 4])] .n,.r (.tup #[.s "hop",.k 62 #[.v 0,.i 4],.ix (.lst #[.non,.i 0,.i 1]) (.k 62 #[.v 0,.i 3])])]⟩
abbrev gE:ay:=⟨["_law_spec_here"],["_law_spec_here","_law_words_here"],[],#[.a 1 (.lci (.bf .str #[.v 0]) (.q .IsNot (.v 0) .non) [] (.seq (.v 0))),.f (.and (.q .Eq (.ix (.v 0) (.i 0)) (.s "hop")) (.q .IsNot (.ix (.v 0) (.i 2)) .non)) #[.a 1 (.bin .Add (.bin .Add (.sl (.v 1) .no (.yes (.i 2))) (.lst #[.s "if"])) (.sl (.v 1) (.yes (.i 2)) .no))] .n,.r (.v 1)]⟩
abbrev iA:ay:=⟨["_law_hand_here"],["_law_hand_here","_law_some","_law_letters"],[],#[.a 1 (.lst #[.s "a",.s "do",.s "and",.s "else",.s "when",.s "times",.s "copy",.s "set",.s "if",.s "zzzzzzzz",.s "hop",.s "here"]),.f (.q .Gt (.k 62 #[.v 0,.i 3]) (.i 0)) #[.r (.ix (.v 1) (.k 62 #[.v 0,.bf .len #[.v 1]]))] .n,.a 2 (.s "abcdefghijklmnopqrstuvwxyz"),.r (.sm .join (.s "") (.lc (.ix (.v 1) (.k 62 #[.v 2,.i 26])) [2,0] (.rng1 (.bin .Add (.i 1) (.k 62 #[.v 0,.i 8])))))]⟩
abbrev gk:ay:=⟨["_law_hand_here","_law_deep","_law_room"],["_law_hand_here","_law_deep","_law_room","_law_block_here","_law_k"],[],#[.a 3 (.lst .n),.for (.nm 4) (.rng1 (.ix (.lst #[.i 1,.i 2,.i 3,.i 0,.i 2,.i 5]) (.k 62 #[.v 0,.i 6]))) #[.f (.q .Gt (.ix (.v 2) (.i 0)) (.i 0)) #[.augS (.v 2) (.i 0) .Sub (.i 1),.e (.lm .append (.v 3) #[.k 67 #[.v 0,.v 1,.v 2]])] .n],.r (.v 3)]⟩
abbrev cb:ay:=⟨["_law_hand_here","_law_deep","_law_room"],["_law_hand_here","_law_deep","_law_room","_law_way","_law_other_here"],[],#[.a 3 (.k 62 #[.v 0,.i 9]),.f (.or (.q .Lt (.v 3) (.i 5)) (.and (.q .Eq (.v 1) (.i 4)) (.q .Gt (.v 3) (.i 5)))) #[.r (.tup #[.s "deed",.k 63 #[.v 0,.i 60]])] .n,.f (.q .Eq (.v 3) (.i 5)) #[.r (.tup #[.s "do",.k 65 #[.v 0]])] .n,.f (.q .Eq (.v 3) (.i 6)) #[.r (.tup #[.s "times",.k 62 #[.v 0,.i 10],.k 66 #[.v 0,.bin .Add (.v 1) (.i 1),.v 2]])] .n,.a 4 (.lst .n),.f (.q .Eq (.k 62 #[.v 0,.i 2]) (.i 0)) #[.a 4 (.k 66 #[.v 0,.bin .Add (.v 1) (.i 1),.v 2])] .n,.r (.tup #[.s "when",.k 62 #[.v 0,.i 2],.k 66 #[.v 0,.bin .Add (.v 1) (.i 1),.v 2],.v 4])]⟩
abbrev cH:ay:=⟨["_law_item_here"],["_law_item_here","_law_text_here"],[],#[.f (.q .Eq (.ix (.v 0) (.i 0)) (.s "deed")) #[.r (.sm .join (.s " ") (.k 64 #[.ix (.v 0) (.i 1)]))] .n,.f (.q .Eq (.ix (.v 0) (.i 0)) (.s "do")) #[.r (.bin .Add (.s "do ") (.ix (.v 0) (.i 1)))] .n,.f (.q .Eq (.ix (.v 0) (.i 0)) (.s "times")) #[.r (.bin .Add (.bin .Add (.bin .Add (.s "times ") (.bf .str #[.ix (.v 0) (.i 1)])) (.s " ")) (.k 69 #[.ix (.v 0) (.i 2)]))] .n,.a 1 (.bin .Add (.bin .Add (.bin .Add (.s "when ") (.bf .str #[.ix (.v 0) (.i 1)])) (.s " ")) (.k 69 #[.ix (.v 0) (.i 2)])),.f (.q .NotEq (.ix (.v 0) (.i 3)) (.lst .n)) #[.a 1 (.bin .Add (.bin .Add (.v 1) (.s " else ")) (.k 69 #[.ix (.v 0) (.i 3)]))] .n,.r (.v 1)]⟩
abbrev iU:ay:=⟨["_law_block_here"],["_law_block_here"],[],#[.f (.q .Eq (.v 0) (.lst .n)) #[.r (.s "( )")] .n,.r (.bin .Add (.bin .Add (.s "( ") (.sm .join (.s " ; ") (.lc (.k 68 #[.v 0]) [] (.seq (.v 0))))) (.s " )"))]⟩
abbrev kU:ay:=⟨["_law_items","_law_block_here"],["_law_items","_law_block_here"],[],#[.f (.or (.not (.val (.isi (.v 0) (.ty "list")))) (.q .NotEq (.bf .len #[.v 0]) (.bf .len #[.v 1]))) #[.r (.bl false)] .n,.r (.bf .all #[.lc (.k 71 #[.ix (.v 1) (.v 0),.ix (.v 2) (.v 0)]) [0,1] (.rng1 (.bf .len #[.v 1]))])]⟩
abbrev dU:ay:=⟨["_law_thing","_law_item_here"],["_law_thing","_law_item_here"],[],#[.f (.q .Eq (.ix (.v 1) (.i 0)) (.s "deed")) #[.r (.and (.isi (.v 0) (.own 6)) (.q .Eq (.m (.v 0) "words" .n) (.k 64 #[.ix (.v 1) (.i 1)])))] .n,.f (.q .Eq (.ix (.v 1) (.i 0)) (.s "do")) #[.r (.and (.isi (.v 0) (.own 13)) (.q .Eq (.m (.v 0) "told" .n) (.tup #[.s "do",.ix (.v 1) (.i 1)])))] .n,.f (.q .Eq (.ix (.v 1) (.i 0)) (.s "times")) #[.f (.or (.not (.val (.isi (.v 0) (.own 14)))) (.q .NotEq (.sl (.m (.v 0) "told" .n) .no (.yes (.i 2))) (.tup #[.s "times",.ix (.v 1) (.i 1)]))) #[.r (.bl false)] .n,.r (.k 70 #[.ix (.m (.v 0) "told" .n) (.i 2),.ix (.v 1) (.i 2)])] .n,.f (.or (.not (.val (.isi (.v 0) (.own 15)))) (.q .NotEq (.sl (.m (.v 0) "told" .n) .no (.yes (.i 2))) (.tup #[.s "when",.ix (.v 1) (.i 1)]))) #[.r (.bl false)] .n,.r (.and (.k 70 #[.ix (.m (.v 0) "told" .n) (.i 2),.ix (.v 1) (.i 2)]) (.k 70 #[.ix (.m (.v 0) "told" .n) (.i 3),.ix (.v 1) (.i 3)]))]⟩
abbrev cQ:ay:=⟨["_law_words_here","_law_at","_law_low","_law_high"],["_law_words_here","_law_at","_law_low","_law_high","_law_word","_law_figures"],[],#[.a 4 (.ix (.bin .Add (.v 0) (.lst #[.s ""])) (.bf .min #[.v 1,.bf .len #[.v 0]])),.a 5 (.sl (.v 4) (.yes (.bf .int #[.q .Eq (.sl (.v 4) .no (.yes (.i 1))) (.s "-")])) .no),.f (.or (.not (.cmp2 .LtE .LtE (.i 1) (.bf .len #[.v 5]) (.i 10))) (.q .In (.bl false) (.lc (.q .In (.v 0) (.s "0123456789")) [] (.seq (.v 5))))) #[.r .non] .n,.f (.or (.and (.q .Eq (.ix (.v 5) (.i 0)) (.s "0")) (.q .NotEq (.v 4) (.s "0"))) (.not (.cmp2 .LtE .LtE (.v 2) (.bf .int #[.v 4]) (.v 3)))) #[.r .non] .n,.r (.bf .int #[.v 4])]⟩
abbrev dv:ay:=⟨["_law_words_here","_law_at"],["_law_words_here","_law_at","_law_many","_law_on"],[],#[.a 2 (.k 72 #[.v 0,.bin .Add (.v 1) (.i 1),.i 0,.i 24]),.f (.q .Is (.v 2) .non) #[.r (.tup #[.non,.bf .min #[.bin .Add (.v 1) (.i 1),.bf .len #[.v 0]]])] .n,.f (.q .NotEq (.sl (.v 0) (.yes (.bin .Add (.v 1) (.i 2))) (.yes (.bin .Add (.v 1) (.i 3)))) (.lst #[.s "if"])) #[.r (.tup #[.tup #[.s "deed",.tup #[.s "hop",.v 2,.non]],.bin .Add (.v 1) (.i 2)])] .n,.a 3 (.k 72 #[.v 0,.bin .Add (.v 1) (.i 3),.i 0,.i 1]),.f (.q .Is (.v 3) .non) #[.r (.tup #[.non,.bf .min #[.bin .Add (.v 1) (.i 3),.bf .len #[.v 0]]])] .n,.r (.tup #[.tup #[.s "deed",.tup #[.s "hop",.v 2,.v 3]],.bin .Add (.v 1) (.i 4)])]⟩
abbrev cG:ay:=⟨["_law_words_here","_law_at"],["_law_words_here","_law_at","_law_kinds","_law_spec_here","_law_kind","_law_part"],[],#[.a 2 (.disp ["set","add","take","read","write","copy","fill","seek"] #[.s "bn",.s "bn",.s "bb",.s "b",.s "b",.s "",.s "",.s ""]),.e (.dupd (.v 2) (.disp ["match","shift","turn"] #[.s "",.s "",.s ""])),.f (.q .Eq (.ix (.v 0) (.v 1)) (.s "hop")) #[.r (.k 73 #[.v 0,.v 1])] .n,.f (.q .NotIn (.ix (.v 0) (.v 1)) (.v 2)) #[.r (.tup #[.non,.v 1])] .n,.a 3 (.lst #[.ix (.v 0) (.v 1)]),.for (.nm 4) (.seq (.ix (.v 2) (.ix (.v 0) (.v 1)))) #[.aug 1 .Add (.i 1),.a 5 (.ix (.bin .Add (.v 0) (.lst #[.s ""])) (.bf .min #[.v 1,.bf .len #[.v 0]])),.f (.q .Eq (.v 4) (.s "n")) #[.a 5 (.k 72 #[.v 0,.v 1,.neg (.bin .Pow (.i 10) (.i 9)),.bin .Pow (.i 10) (.i 9)])] #[.f (.q .NotIn (.v 5) (.tup #[.s "here",.s "there",.s "left",.s "way",.s "sign",.s "met"])) #[.a 5 .non] .n],.f (.q .Is (.v 5) .non) #[.r (.tup #[.non,.bf .min #[.v 1,.bf .len #[.v 0]]])] .n,.e (.lm .append (.v 3) #[.v 5])],.r (.tup #[.tup #[.s "deed",.bf .tuple #[.v 3]],.bin .Add (.v 1) (.i 1)])]⟩
abbrev cU:ay:=⟨["_law_words_here","_law_at","_law_deep"],["_law_words_here","_law_at","_law_deep","_law_on","_law_block_here","_law_other_here"],[],#[.a 3 (.k 72 #[.v 0,.bin .Add (.v 1) (.i 1),.i 0,.i 1]),.f (.q .Is (.v 3) .non) #[.r (.tup #[.non,.bf .min #[.bin .Add (.v 1) (.i 1),.bf .len #[.v 0]]])] .n,.asgT [4,1] (.k 77 #[.v 0,.bin .Add (.v 1) (.i 2),.bin .Add (.v 2) (.i 1)]),.f (.q .Is (.v 4) .non) #[.r (.tup #[.non,.v 1])] .n,.a 5 (.lst .n),.f (.q .Eq (.sl (.v 0) (.yes (.v 1)) (.yes (.bin .Add (.v 1) (.i 1)))) (.lst #[.s "else"])) #[.asgT [5,1] (.k 77 #[.v 0,.bin .Add (.v 1) (.i 1),.bin .Add (.v 2) (.i 1)]),.f (.q .Is (.v 5) .non) #[.r (.tup #[.non,.v 1])] .n] .n,.r (.tup #[.tup #[.s "when",.v 3,.v 4,.v 5],.v 1])]⟩
abbrev cP:ay:=⟨["_law_words_here","_law_at","_law_deep"],["_law_words_here","_law_at","_law_deep","_law_name_here","_law_many","_law_block_here","_law_behind"],[],#[.f (.q .GtE (.v 1) (.bf .len #[.v 0])) #[.r (.tup #[.non,.bf .len #[.v 0]])] .n,.f (.q .Eq (.ix (.v 0) (.v 1)) (.s "do")) #[.a 3 (.ix (.bin .Add (.v 0) (.lst #[.s ""])) (.bin .Add (.v 1) (.i 1))),.f (.or (.not (.cmp2 .LtE .LtE (.i 1) (.bf .len #[.v 3]) (.i 8))) (.q .In (.bl false) (.lc (.q .In (.v 0) (.s "abcdefghijklmnopqrstuvwxyz")) [] (.seq (.v 3))))) #[.r (.tup #[.non,.bin .Add (.v 1) (.i 1)])] .n,.r (.tup #[.tup #[.s "do",.v 3],.bin .Add (.v 1) (.i 2)])] .n,.f (.q .Eq (.ix (.v 0) (.v 1)) (.s "times")) #[.a 4 (.k 72 #[.v 0,.bin .Add (.v 1) (.i 1),.i 0,.i 9]),.f (.q .Is (.v 4) .non) #[.r (.tup #[.non,.bin .Add (.v 1) (.i 1)])] .n,.asgT [5,6] (.k 77 #[.v 0,.bin .Add (.v 1) (.i 2),.bin .Add (.v 2) (.i 1)]),.f (.q .Is (.v 5) .non) #[.r (.tup #[.non,.v 6])] .n,.r (.tup #[.tup #[.s "times",.v 4,.v 5],.v 6])] .n,.f (.q .Eq (.ix (.v 0) (.v 1)) (.s "when")) #[.r (.k 75 #[.v 0,.v 1,.v 2])] .n,.r (.k 74 #[.v 0,.v 1])]⟩
abbrev bY:ay:=⟨["_law_words_here","_law_at","_law_deep"],["_law_words_here","_law_at","_law_deep","_law_block_here","_law_turn","_law_item_here"],[],#[.f (.or (.q .GtE (.v 1) (.bf .len #[.v 0])) (.or (.q .NotEq (.ix (.v 0) (.v 1)) (.s "(")) (.q .Gt (.v 2) (.i 4)))) #[.r (.tup #[.non,.bf .min #[.v 1,.bf .len #[.v 0]]])] .n,.f (.q .Eq (.sl (.v 0) (.yes (.bin .Add (.v 1) (.i 1))) (.yes (.bin .Add (.v 1) (.i 2)))) (.lst #[.s ")"])) #[.r (.tup #[.lst .n,.bin .Add (.v 1) (.i 2)])] .n,.a 3 (.lst .n),.for (.nm 4) (.rng1 (.i 24)) #[.asgT [5,1] (.k 76 #[.v 0,.bin .Add (.v 1) (.i 1),.v 2]),.f (.q .Is (.v 5) .non) #[.r (.tup #[.non,.v 1])] .n,.e (.lm .append (.v 3) #[.v 5]),.f (.q .Eq (.sl (.v 0) (.yes (.v 1)) (.yes (.bin .Add (.v 1) (.i 1)))) (.lst #[.s ")"])) #[.r (.tup #[.v 3,.bin .Add (.v 1) (.i 1)])] .n,.f (.q .NotEq (.sl (.v 0) (.yes (.v 1)) (.yes (.bin .Add (.v 1) (.i 1)))) (.lst #[.s ";"])) #[.r (.tup #[.non,.bf .min #[.v 1,.bf .len #[.v 0]]])] .n],.r (.tup #[.non,.v 1])]⟩
abbrev iM:ay:=⟨["_law_text_here"],["_law_text_here","_law_words_here","_law_block_here","_law_at"],[],#[.a 1 (.sm .split (.v 0) (.s " ")),.asgT [2,3] (.k 77 #[.v 1,.i 0,.i 1]),.f (.and (.q .IsNot (.v 2) .non) (.q .Lt (.v 3) (.bf .len #[.v 1]))) #[.r (.tup #[.non,.v 3])] .n,.r (.tup #[.v 2,.v 3])]⟩
abbrev dB:ay:=⟨["_law_text_here"],["_law_text_here","_law_items","e"],[],#[.tryx #[.a 1 (.k 56 #[.v 0])] (.c 0 2 #[.f (.or (.not (.val (.isi (.v 2) (.own 4)))) (.or (.val (.isiT (.v 2) [3,2,5])) (.not (.val (.isi (.v 2) (.ty "ValueError")))))) #[.r (.tup #[.s "another",.i 0])] .n,.r (.tup #[.s "none",.fld (.v 2) "at"])] .n),.r (.tup #[.s "read",.v 1])]⟩
abbrev fR:ay:=⟨["_law_text_here"],["_law_text_here","_law_block_here","_law_at","_law_turn","_law_found"],[],#[.asgT [1,2] (.k 78 #[.v 0]),.for (.nm 3) (.rng1 (.i 2)) #[.a 4 (.k 79 #[.v 0]),.f (.and (.q .Is (.v 1) .non) (.q .NotEq (.v 4) (.tup #[.s "none",.v 2]))) #[.r (.bl false)] .n,.f (.q .IsNot (.v 1) .non) #[.f (.or (.q .NotEq (.ix (.v 4) (.i 0)) (.s "read")) (.not (.val (.k 70 #[.ix (.v 4) (.i 1),.v 1])))) #[.r (.bl false)] .n,.f (.q .NotEq (.k 60 #[.ix (.v 4) (.i 1)]) (.k 69 #[.v 1])) #[.r (.bl false)] .n] .n],.r (.bl true)]⟩
abbrev iL:ay:=⟨["_law_hand_here","_law_word"],["_law_hand_here","_law_word","_law_signs","_law_way","_law_at"],[],#[.a 2 (.s "abcdefghijklmnopqrstuvwxyzABCDEFGHIJKLMNOPQRSTUVWXYZ0123456789 !\"#$&'()*+,-./:;<=>?\x40[\\]^_`{|}~"),.a 3 (.k 62 #[.v 0,.i 3]),.a 4 (.k 62 #[.v 0,.bin .Add (.bf .len #[.v 1]) (.i 1)]),.f (.q .Eq (.v 3) (.i 0)) #[.r (.bin .Add (.sl (.v 1) .no (.yes (.v 4))) (.sl (.v 1) (.yes (.bin .Add (.v 4) (.i 1))) .no))] .n,.r (.bin .Add (.bin .Add (.sl (.v 1) .no (.yes (.v 4))) (.ix (.v 2) (.k 62 #[.v 0,.bf .len #[.v 2]]))) (.sl (.v 1) (.yes (.bin .Sub (.bin .Add (.v 4) (.v 3)) (.i 1))) .no))]⟩
abbrev gz:ay:=⟨["_law_hand_here"],["_law_hand_here","_law_some"],[],#[.a 1 (.lst #[.s "(",.s ")",.s ";",.s "do",.s "times",.s "when",.s "else",.s "if",.s "hop",.s "set",.s "add",.s "take",.s "read",.s "write",.s "copy"]),.a 1 (.bin .Add (.v 1) (.lst #[.s "there",.s "way",.s "sign",.s "match"])),.a 1 (.bin .Add (.v 1) (.lst #[.s "fill",.s "turn",.s "here",.s "met",.s "0",.s "1",.s "2",.s "9",.s "10",.s "24",.s "25",.s "-1",.s "01",.s "-0",.s "+1",.s ""])),.a 1 (.bin .Add (.v 1) (.lst #[.s "1000000000",.s "1000000001",.s "-1000000001",.s "abcdefghi",.s "A",.s "sets",.s "seek",.s "shift",.s "left"])),.r (.ix (.v 1) (.k 62 #[.v 0,.bf .len #[.v 1]]))]⟩
abbrev eW:ay:=⟨["_law_hand_here","_law_text_here"],["_law_hand_here","_law_text_here","_law_way","_law_words_here","_law_at","_law_moved","_law_more"],[],#[.a 2 (.k 62 #[.v 0,.i 9]),.a 3 (.sm .split (.v 1) (.s " ")),.a 4 (.k 62 #[.v 0,.bf .len #[.v 3]]),.f (.q .Lt (.v 2) (.i 3)) #[.sub (.v 3) (.v 4) (.k 81 #[.v 0,.ix (.v 3) (.v 4)])] #[.f (.q .Lt (.v 2) (.i 5)) #[.sub (.v 3) (.v 4) (.k 82 #[.v 0])] #[.f (.q .Eq (.v 2) (.i 5)) #[.a 3 (.bin .Add (.sl (.v 3) .no (.yes (.v 4))) (.sl (.v 3) (.yes (.bin .Add (.v 4) (.i 1))) .no))] #[.f (.q .Eq (.v 2) (.i 6)) #[.a 3 (.bin .Add (.bin .Add (.sl (.v 3) .no (.yes (.v 4))) (.lst #[.ix (.v 3) (.v 4),.ix (.v 3) (.v 4)])) (.sl (.v 3) (.yes (.bin .Add (.v 4) (.i 1))) .no))] #[.f (.q .Eq (.v 2) (.i 7)) #[.a 5 (.bin .Add (.sl (.v 3) (.yes (.bin .Add (.v 4) (.i 1))) (.yes (.bin .Add (.v 4) (.i 2)))) (.lst #[.ix (.v 3) (.v 4)])),.a 3 (.bin .Add (.bin .Add (.sl (.v 3) .no (.yes (.v 4))) (.v 5)) (.sl (.v 3) (.yes (.bin .Add (.v 4) (.i 2))) .no))] #[.a 6 (.k 62 #[.v 0,.i 3]),.f (.q .Eq (.v 6) (.i 0)) #[.a 3 (.sl (.v 3) .no (.yes (.v 4)))] #[.f (.q .Eq (.v 6) (.i 1)) #[.e (.lm .append (.v 3) #[.k 82 #[.v 0]])] #[.e (.lm .insert (.v 3) #[.v 4,.s ""])]]]]]]],.r (.sm .join (.s " ") (.v 3))]⟩
abbrev o6:ay:=⟨["_law_script"],["_law_script","_law_hand_here","_law_turn","_law_spoils","_law_text_here","_law_k","_law_odd","_law_many","_law_deeds","_law_row","_law_inner","_law_deep"],[],#[.a 1 (.k 61 #[.v 0]),.for (.nm 2) (.rng1 (.i 8)) #[.a 3 (.bin .Add (.i 1) (.k 62 #[.v 1,.i 2])),.a 4 (.k 69 #[.k 66 #[.v 1,.i 1,.lst #[.i 12]]]),.f (.not (.val (.k 80 #[.v 4]))) #[.r (.bl false)] .n,.for (.nm 5) (.rng1 (.v 3)) #[.a 4 (.k 83 #[.v 1,.v 4])],.f (.not (.val (.k 80 #[.v 4]))) #[.r (.bl false)] .n],.a 6 (.ix (.lst #[.non,.i 5,.bl true,.lst .n,.lst #[.s "( )"],.tup #[.s "( )"],.dnew]) (.k 62 #[.v 1,.i 7])),.a 7 (.bin .Add (.i 24) (.k 62 #[.v 1,.i 2])),.a 8 (.lc (.sm .join (.s " ") (.k 64 #[.k 63 #[.v 1,.i 60]])) [1] (.rng1 (.v 7))),.a 9 (.bin .Add (.bin .Add (.s "( ") (.sm .join (.s " ; ") (.v 8))) (.s " )")),.a 9 (.ix (.lst #[.v 9,.bin .Add (.bin .Add (.s "( times 2 ") (.v 9)) (.s " )")]) (.k 62 #[.v 1,.i 2])),.a 10 (.ix (.lst #[.s "( copy )",.s "( times 2 ( ) )"]) (.k 62 #[.v 1,.i 2])),.a 11 (.bin .Add (.bin .Add (.s "( times 1 ( when 1 ( do a ) else ( times 0 ") (.v 10)) (.s " ) ) )")),.f (.or (.q .NotEq (.k 79 #[.v 6]) (.tup #[.s "none",.neg (.i 1)])) (.or (.not (.val (.k 80 #[.v 9]))) (.not (.val (.k 80 #[.v 11]))))) #[.r (.bl false)] .n,.f (.not (.val (.k 80 #[.s "( when 1 ( when 0 ( when 1 ( when 0 ( copy ) ) ) ) )"]))) #[.r (.bl false)] .n,.r (.and (.k 80 #[.s ""]) (.and (.k 80 #[.s "("]) (.and (.k 80 #[.s "( )  "]) (.k 80 #[.s "( ; )"]))))]⟩
abbrev tab:Tab where
  fns:=(fP::gH::fN::bZ::gJ::jr::nP::iG::iD::dM::dC::iz::dF::iZ::dn::fX::dm::f7::cO::eU::kL::sL::dX::iS::eY::kA::cK::c5::bG::bW::fQ::fS::fV::fe::eX::fW::gR::cW::dA::a7::dz::cj::dG::bO::bR::cf::bD::d6::dq::cI::jT::iK::iN::iW::bJ::gA::c8::gd::gI::cB::gw::iH::iT::iy::gE::iA::gk::cb::cH::iU::kU::dU::cQ::dv::cG::cU::cP::bY::iM::dB::fR::iL::gz::eW::o6::[])
  gfn:=(("is_whole",5)::("is_box",6)::("is_number",7)::("check_box",8)::("check_number",9)::("is_many",20)::("is_on",21)::("is_name",36)::("is_written",37)::("number_of",38)::("long_deed_from",49)::("hop_from",50)::("deed_from",51)::("when_from",52)::("item_from",53)::("items_from",54)::("block_from",55)::("read_block",56)::("when_words",57)::("item_words",58)::("block_words",59)::("show_block",60)::("_law_hand",61)::("_law_draw",62)::("_law_spec",63)::("_law_words",64)::("_law_name",65)::("_law_block",66)::("_law_item",67)::("_law_item_text",68)::("_law_text",69)::("_law_is",70)::("_law_is_item",71)::("_law_number_at",72)::("_law_read_hop",73)::("_law_read_deed",74)::("_law_read_when",75)::("_law_read_item",76)::("_law_read_block",77)::("_law_read",78)::("_law_told",79)::("_law_right",80)::("_law_sign",81)::("_law_other",82)::("_law_spoilt",83)::("law",84)::[])
  gcl:=[("HaulError",0),("NoDeed",1),("NoName",2),("NoFlat",3),("NoText",4),("NoRow",5),("Deed",6),("Set",7),("Add",8),("Take",9),("Read",10),("Write",11),("Hop",12),("Do",13),("Times",14),("When",15),("Copy",16),("Fill",17),("Seek",18),("Match",19),("Shift",20),("Turn",21),("Reader",22)]
  gbl:=["ValueError","all","bool","enumerate","int","isinstance","len","list","min","range","str","tuple"]
  gbi:=["HaulError"]
  na:=[(1,"word"),(2,"word"),(3,"many"),(4,"at"),(5,"row"),(7,"box"),(7,"number"),(8,"box"),(8,"number"),(9,"box"),(9,"other"),(10,"box"),(11,"box"),(12,"many"),(12,"on"),(13,"called"),(14,"block"),(14,"many"),(15,"block"),(15,"on"),(15,"other"),(22,"at"),(22,"queue")]
  me:=[((7,"words"),11),((8,"words"),13),((9,"words"),15),((10,"words"),17),((11,"words"),19),((12,"words"),23),((13,"told"),25),((14,"told"),27),((15,"told"),29),((16,"words"),30),((17,"words"),31),((18,"words"),32),((19,"words"),33),((20,"words"),34),((21,"words"),35),((22,"ahead"),40),((22,"ended"),47),((22,"finish"),48),((22,"skips"),42),((22,"take"),41),((22,"take_box"),45),((22,"take_name"),44),((22,"take_number"),46),((22,"take_word"),43)]
  ini:=[(1,0),(2,1),(3,2),(4,3),(5,4),(7,10),(8,12),(9,14),(10,16),(11,18),(12,22),(13,24),(14,26),(15,28),(22,39)]
  ini0:=[]
  inip:=[16,17,18,19,20,21]
  oc:=[6,7,8,9,10,11,12,13,14,15,16,17,18,19,20,21,22]
  xc:=[0,1,2,3,4,5]
  sub:=(((0,0),true)::((0,3),false)::((0,2),false)::((0,5),false)::((0,4),false)::((1,0),true)::((1,3),false)::((1,2),false)::((1,5),false)::((1,4),false)::((2,0),true)::((2,3),false)::((2,2),true)::((2,5),false)::((2,4),false)::((3,0),true)::((3,3),true)::((3,2),false)::((3,5),false)::((3,4),false)::((4,0),true)::((4,3),false)::((4,2),false)::((4,5),false)::((4,4),true)::((5,0),true)::((5,3),false)::((5,2),false)::((5,5),true)::((5,4),false)::((6,6),true)::((6,13),false)::((6,14),false)::((6,15),false)::((7,6),true)::((7,13),false)::((7,14),false)::((7,15),false)::((8,6),true)::((8,13),false)::((8,14),false)::((8,15),false)::((9,6),true)::((9,13),false)::((9,14),false)::((9,15),false)::((10,6),true)::((10,13),false)::((10,14),false)::((10,15),false)::((11,6),true)::((11,13),false)::((11,14),false)::((11,15),false)::((12,6),true)::((12,13),false)::((12,14),false)::((12,15),false)::((13,6),false)::((13,13),true)::((13,14),false)::((13,15),false)::((14,6),false)::((14,13),false)::((14,14),true)::((14,15),false)::((15,6),false)::((15,13),false)::((15,14),false)::((15,15),true)::((16,6),true)::((16,13),false)::((16,14),false)::((16,15),false)::((17,6),true)::((17,13),false)::((17,14),false)::((17,15),false)::((18,6),true)::((18,13),false)::((18,14),false)::((18,15),false)::((19,6),true)::((19,13),false)::((19,14),false)::((19,15),false)::((20,6),true)::((20,13),false)::((20,14),false)::((20,15),false)::((21,6),true)::((21,13),false)::((21,14),false)::((21,15),false)::((22,6),false)::((22,13),false)::((22,14),false)::((22,15),false)::[])
  subT:=[((0,"ValueError"),true),((1,"ValueError"),true),((2,"ValueError"),true),((3,"ValueError"),true),((4,"ValueError"),true),((5,"ValueError"),true)]
  subB:=[(("NoneType","bool"),false),(("NoneType","int"),false),(("NoneType","list"),false),(("NoneType","str"),false),(("bool","bool"),true),(("bool","int"),true),(("bool","list"),false),(("bool","str"),false),(("int","bool"),false),(("int","int"),true),(("int","list"),false),(("int","str"),false),(("str","bool"),false),(("str","int"),false),(("str","list"),false),(("str","str"),true),(("list","bool"),false),(("list","int"),false),(("list","list"),true),(("list","str"),false),(("tuple","bool"),false),(("tuple","int"),false),(("tuple","list"),false),(("tuple","str"),false),(("dict","bool"),false),(("dict","int"),false),(("dict","list"),false),(("dict","str"),false)]
  subO:=[]
/-- what the proofs ask of the addresses -/
structure Ro (K:W.Frag) (R:Rt):Prop where
  hK:R.K=K
  g_BOUND:R.gl "BOUND"=some (.int 1000000000)
  g_MOST_HOPPED:R.gl "MOST_HOPPED"=some (.int 24)
  g_LONGEST_NAME:R.gl "LONGEST_NAME"=some (.int 8)
  g_MOST_FIGURES:R.gl "MOST_FIGURES"=some (.int 10)
  g_MOST_TIMES:R.gl "MOST_TIMES"=some (.int 9)
  g_MOST_ITEMS:R.gl "MOST_ITEMS"=some (.int 24)
  g_DEEPEST:R.gl "DEEPEST"=some (.int 4)
  g_LETTERS:R.gl "LETTERS"=some (.str "abcdefghijklmnopqrstuvwxyz")
  g_FIGURES:R.gl "FIGURES"=some (.str "0123456789")
  g_NAMES:∃ a,R.gl "NAMES"=some (.ref a)/\∀ H,a5 K H a [.str "here",.str "there",.str "left",.str "way",.str "sign",.str "met"]
end My
set_option Elab.async false
set_option maxHeartbeats 8000000
namespace My
open PySem L2 L3
open L2.V renaming ref→ut,int→v0,str→v6,non→wf
open L2.HO renaming lst→wl,tup→wn,ins→wp
local macro_rules|`(tactic|delta $x:ident)=>`(tactic|refine wc (d:=$x) nofun rfl rfl ?_)
variable {h a x d dx D p:Addr}{m n c:Nat}{ns:List Int}{i lo hi:Int}{v:V}{α:Type}{G:Gx}{xs vs ys:List V}{P:V->Prop}{z:Str}{o:Option Int}{sp:Sp}{l:List (List Str)}{y:List Str}{I:Nat->Addr->List V->Hp->Prop}{H3:Hp}{te:TE}{rest:St}{S:List ai}
section
variable {K:W.Frag}{R:Rt}{k:Nat}{H:Hp}{Q:VK}{E:XK}{O Γ' Δ:List ai}
local macro_rules| `(tactic|walk_at "w")=>`(tactic|conv=>whnf)
local macro_rules| `(tactic|left)=>`(tactic|walk_at "w")
local macro_rules| `(tactic|symm)=>`(tactic|((with_reducible (repeat(first|exact aw.e|apply aw.t)));done))
local macro_rules| `(tactic|ac_rfl)=>`(tactic|((with_reducible (repeat(first|exact dg.e|apply dg.t)));done))
local macro_rules| `(tactic|ac_nf)=>`(tactic|first|(with_reducible exact Sub.refl)|(refine' Sub.cons ?h ?r;(case h=>symm);(case r=>ac_nf))|(with_reducible exact Sub.nil)|(with_reducible apply Sub.drop;(ac_nf)))
local macro_rules| `(tactic|walk_at "sp")=>`(tactic|(refine Sep.sub ?_ (by with_reducible assumption);(ac_nf)))
local macro_rules| `(tactic|grind)=>`(tactic|first|exact Sep.get (by with_reducible assumption) (by symm)|exact Sep.GN (by with_reducible assumption) (by symm))
local macro_rules| `(tactic|walk_at "ar")=>`(tactic|first|lia|omega|decide|exact pc rfl|(unfold tK;omega)|(unfold zS;omega)|(unfold zS;decide)|(unfold tK;decide)|(simp only[cr,length_set,List.length_replicate];omega))
local macro_rules| `(tactic|walk_at "ls")=>`(tactic|first|(conv=>lhs;simp only[List.set_cons_succ,List.set_cons_zero,Int.reduceToNat])|rfl)
local macro_rules| `(tactic|walk_at "pf")=>`(tactic|first|(conv=>lhs;simp (decide:=true) only [cw,if_true,if_false])|rfl)
local macro_rules| `(tactic|walk_at "st")=>`(tactic|first
  |(with_reducible refine And.intro rfl ?_)
  |(with_reducible refine aG rfl ?_)
  |(with_reducible refine aD rfl ?_)
  |(with_reducible refine DY ?_)
  |((with_reducible refine' aT ?e ?v ?_);(case e=>grind);(case v=>exact rfl))
  |((with_reducible refine' aV ?e ?v ?_);(case e=>grind);(case v=>exact rfl))
  |((with_reducible refine' G3 ?e ?i ?v ?_);(case e=>grind);(case i=>omega);(case v=>exact rfl))
  |(with_reducible refine Eu rfl ?_)
  |(with_reducible refine bf_max rfl ?_)
  |((with_reducible refine' c6 ?e ?_);(case e=>grind))
  |((with_reducible refine' bf_lenT ?e ?_);(case e=>grind))
  |((with_reducible refine' vQ ?s ?r ?j ?x (λH hs=>?_));(case s=>with_reducible assumption);(case r=>ac_rfl);(case j=>exact rfl);(case x=>walk_at "ls"))
  |((with_reducible refine' cY ?s ?l (λp H hs=>?_));(case s=>with_reducible assumption);(case l=>exact pc rfl))
  |((with_reducible refine' xW ?s ?l (λp H hs=>?_));(case s=>with_reducible assumption);(case l=>exact pc rfl))
  |((with_reducible refine' Cr ?s (λp H hs=>?_));(case s=>with_reducible assumption))
  |((with_reducible refine' F0 ?e ?_);(case e=>grind))
  |((with_reducible refine' FH ?e ?_);(case e=>grind))
  |((with_reducible refine' di ?s ?e ?f ?l (λp H hs=>?_));(case s=>with_reducible assumption);(case e=>grind);(case f=>grind);(case l=>walk_at "ar"))
  |((with_reducible refine' rep_l ?s ?e ?f ?g ?l (λp H hs=>?_));(case s=>with_reducible assumption);(case e=>grind);(case f=>walk_at "ar");(case g=>walk_at "ar");(case l=>walk_at "ar"))
  |((with_reducible refine' Cj ?s ?r ?o ?n ?l ?x (λH hs=>?_));(case s=>with_reducible assumption);(case r=>ac_rfl);(case o=>exact rfl);(case n=>exact rfl);(case l=>walk_at "ar");(case x=>walk_at "pf"))
  |((with_reducible refine' aj ?e ?o ?n ?l ?_);(case e=>grind);(case o=>exact rfl);(case n=>exact rfl);(case l=>exact rfl))
  |((with_reducible refine' GX ?e ?o ?n ?l ?_);(case e=>grind);(case o=>exact rfl);(case n=>exact rfl);(case l=>exact rfl))
  |((with_reducible refine' Ga ?e ?o ?b ?_);(case e=>grind);(case o=>exact rfl);(case b=>exact rfl))
  |((with_reducible refine' EA ?e ?o ?b ?_);(case e=>grind);(case o=>exact rfl);(case b=>exact rfl))
  |((with_reducible refine' jO ?t ?b ?_);(case t=>exact rfl);(case b=>exact rfl))
  |((with_reducible refine' bB ?a ?b ?_);(case a=>exact rfl);(case b=>exact rfl))
  |((with_reducible refine' rL ?a ?b ?_);(case a=>exact rfl);(case b=>exact rfl))
  |((with_reducible refine' aU ?s ?e (λp H hs=>?_));(case s=>with_reducible assumption);(case e=>grind))
  |((with_reducible refine' mj ?s ?e (λp H hs=>?_));(case s=>with_reducible assumption);(case e=>grind))
  |(refine And.intro (by walk_at "ar") ?_))
local macro_rules| `(tactic|walk_at "go")=>`(tactic|(walk_at "w";repeat(walk_at "st";walk_at "w")))
local macro_rules| `(tactic|right)=>`(tactic|walk_at "go")
abbrev hand (h:Addr)(m:Int):ai:=ex λx:Addr×List Int×Int×Int×Int×Int=>qN (pt h (wl [ut x.1,v0 x.2.2.1,v0 x.2.2.2.1,v0 x.2.2.2.2.1,v0 x.2.2.2.2.2])) (qN (pt x.1 (wl (x.2.1.map v0)))
 (pu (x.2.1.length<=63/\0<=x.2.2.1/\x.2.2.1<2147483629/\0<=x.2.2.2.1/\0<=x.2.2.2.2.1/\0<=x.2.2.2.2.2/\x.2.2.2.2.2<=m)))
def vh {m:Int}(s:Sep (hand h m::O) H):∃ (c:Addr) (ns:List Int) (fo i r n:Int),Sep (pt h (wl [ut c,v0 fo,v0 i,v0 r,v0 n])::pt c (wl (ns.map v0))::O) H/\ns.length<=63/\0<=fo/\fo<2147483629/\0<=i/\0<=r/\0<=n/\n<=m:=by
 obtain⟨⟨c,ns,fo,i,r,n⟩,s⟩:=Sep.Hd.mp s;have s2:=Sep.star.mp ((Sep.star.mp s).pull .k1);have p:=(s2.pull .k1).pure;exact⟨c,ns,fo,i,r,n,((s2.pull .k1).drop).pull .k1,p⟩
def ig {c:Addr}{m:Int}{fo r n:Int}(s:Sep (pt h (wl [ut c,v0 fo,v0 i,v0 r,v0 n])::pt c (wl (ns.map v0))::O) H)(p:ns.length<=63/\0<=fo/\fo<2147483629/\0<=i/\0<=r/\0<=n/\n<=m):Sep (hand h m::O) H:=by
 refine Sep.Hd.mpr ⟨⟨c,ns,fo,i,r,n⟩,Sep.star.mpr ?_⟩;exact(Sep.star.mpr (((s.pull .k1).pull .e |> λs=>(Sep.HI p s).pull .k1))).pull .k1
def Fv:(10:Int) ^ Int.toNat 18=1000000000000000000:=by decide
def xh {m n:Int}(hk:1<=k)(s:Sep (hand h m::O) H)(hm:m<=1099511627776)(hn0:0<n)(hn1:n<1073741824)
  (q:∀ (r:Int) (H':Hp),0<=r->r<n->Sep (hand h (m+1)::O) H'->Q (v0 r) H'):ae tab R k 62 [ut h,v0 n] H Q E:=by
 obtain⟨c,ns,fo,i,r,j,hs,h63,f0,f1,i0,r0,k0,k1⟩:=vh s;clear s;have nn:n≠0:=by omega
 delta iT;right;refine aN (λhr=>?_) (λhr=>?_)
 .right;rename_i H1 hs1 H2 hs2;exact q _ _ (Int.emod_nonneg _ nn) (Int.emod_lt_of_pos _ hn0) (ig hs2 ⟨h63,f0,f1,i0,Int.ediv_nonneg r0 nofun,by omega,by omega⟩)
 right;refine aN (λhc=>?_) (λhc=>?_)
 .right;obtain⟨z,hz⟩:∃ z,fH (ns.map v0) i=some (v0 z):=u7 i0 (by rw[cr]at hc;exact hc);refine aT (by grind) hz ?_;right;refine aN (λhz18=>?_) (λhz18=>?_)
  .rw[Fv]at hz18;right;rename_i H1 hs1 H2 hs2 H3 hs3;exact q _ _ (Int.emod_nonneg _ nn) (Int.emod_lt_of_pos _ hn0) (ig hs3 ⟨h63,f0,f1,by omega,Int.ediv_nonneg nofun nofun,by omega,by omega⟩)
  .right;rename_i H1 hs1 H2 hs2;exact q _ _ (Int.emod_nonneg _ nn) (Int.emod_lt_of_pos _ hn0) (ig hs2 ⟨h63,f0,f1,by omega,r0,by omega,by omega⟩)
 .right;rename_i H1 hs1;exact q _ _ (Int.emod_nonneg _ nn) (Int.emod_lt_of_pos _ hn0) (ig hs1 ⟨h63,f0,f1,by omega,r0,by omega,by omega⟩)
def D9 (hk:1<=k)(s:Sep O H)(hS:aP R.K H a (ns.map v0))(h63:ns.length<=63)(q:∀ h H',Sep (hand h 0::O) H'->Q (ut h) H'):ae tab R k 61 [ut a] H Q E:=by
 delta iH;right;refine Hz s hS (λp H1 hs1=>?_);rw[EU ns h63]at hs1;right;rename_i c H2 hs2;refine yU (xs:=ns.map v0) (λj U H=>∃ (fo:Int) (v:Option V),U=[some (ut a),some (ut c),some (v0 fo),v]/\0<=fo/\fo<2147483629/\Sep (pt c (wl (ns.map v0))::pt p (wl (ns.map v0))::O) H) ?_ ?_ ?_ ?_
 .exact⟨_,none,rfl,by rw[cr];omega,by rw[cr];omega,hs2⟩
 .rintro j U H ⟨fo,v,rfl,h0,h2,hs⟩;exact aP.of hs.at
 .rintro j x U H hx ⟨fo,v,rfl,h0,h2,hs⟩;obtain⟨z,rfl⟩:=pZ hx;right;exact⟨_,_,rfl,by omega,by omega,hs⟩
 .rintro U H ⟨fo,v,rfl,h0,h2,hs⟩;right;rename_i l H3 hs3;exact q l _ (ig ((hs3.pull .k2).drop) ⟨h63,h0,h2,by omega,by omega,by omega,by omega⟩)
def ao {m n:Int}(s:Sep (hand h m::O) H)(e:m<=n):Sep (hand h n::O) H:=by
 obtain⟨c,ns,fo,i,r,j,hs,h63,f0,f1,i0,r0,k0,k1⟩:=vh s;exact ig hs ⟨h63,f0,f1,i0,r0,k0,by omega⟩
inductive Kd (H:Hp):V->String->Prop where
 |non:Kd H wf "NoneType"
 |bl (b:Bool):Kd H (.bl b) "bool"
 |int (i:Int):Kd H (v0 i) "int"
 |str (x:Str):Kd H (v6 x) "str"
 |lst {a:Addr}{xs:List V}(e:H a=some (wl xs)):Kd H (ut a) "list"
 |tup {a:Addr}{xs:List V}(e:H a=some (wn xs)):Kd H (ut a) "tuple"
 |dct {a:Addr}{kvs:List (Key×V)}(e:Rd H a (.dK kvs)):Kd H (ut a) "dict"
def oy {t:String}(h:tyName v H=some t):Kd H v t:=by
 unfold tyName at h
 split at h
 .cases h;exact .non
 .cases h;exact .bl _
 .cases h;exact .int _
 .cases h;exact .str _
 .split at h
  .rename_i e;cases h;exact .lst e
  .rename_i e;cases h;exact .tup e
  .rename_i e;cases h;exact .dct (.inl e)
  .rename_i e;cases h;exact .dct (.inr ⟨_,e⟩)
  .cases h
 .cases h
abbrev C8:V->Bool
 | v0 _=>true
 |_=>false
def cZ {t:String}(hk:1<=k)(ht:tyName v H=some t)(q:Q (.bl (C8 v)) H):ae tab R k 5 [v] H Q E:=by
 delta jr;right;cases oy ht
 all_goals
  refine jO ht rfl ?_;right
  first
   |exact q
   |(refine jO ht rfl ?_;right;exact q)
abbrev lZ (C:Addr)(fs:List (Str×V))(x:Addr)(fr:Bool):ai:=ex λd:Addr=>qN (pt x (.exc C (some d) fs fr)) (pt d (.own x))
def rX {C:Addr}{fs:List (Str×V)}{fr:Bool}(s:Sep (pt x (.exc C (some d) fs fr)::pt d (.own x)::O) H):Sep (lZ C fs x fr::O) H:=Sep.Hd.mpr ⟨d,Sep.star.mpr s⟩
def B0 {C:Addr}{fs:List (Str×V)}{fr:Bool}(s:Sep (lZ C fs x fr::O) H):∃ d,Sep (pt x (.exc C (some d) fs fr)::pt d (.own x)::O) H:=let⟨d,s⟩:=Sep.Hd.mp s;⟨d,Sep.star.mp s⟩
def w9:(10:Int) ^ Int.toNat 9=1000000000:=by decide
local macro_rules| `(tactic|walk_at "dr")=>`(tactic|(refine' xh ?k ?s ?m ?a ?b (λr H hr0 hr1 hs=>?_);(case s=>walk_at "sp");(case k=>exact nofun);(case m=>omega);(case a=>walk_at "ar");(case b=>walk_at "ar")))
local macro_rules| `(tactic|walk_at "gd")=>`(tactic|(walk_at "w";repeat(first|(walk_at "st";walk_at "w")|(walk_at "dr";walk_at "w"))))
abbrev bx (f:α->List ai):ai:=⟨λH D=>∃ x,aY (f x) H D,λH H' D ⟨x,h⟩ k t=>⟨x,aY.st h k t⟩,λH D D' ⟨x,h⟩ k=>⟨x,aY.up h k⟩⟩
def fT:∀ {O Δ:List ai}{D:Addr->Prop},aY (O++Δ) H D ↔ ∃ D1 D2:Addr->Prop,(∀ a,D1 a->D a)/\(∀ a,D2 a->D a)/\(∀ a,D1 a->D2 a->False)/\aY O H D1/\aY Δ H D2
 | [],Δ,D=>⟨λh=>⟨λ_=>False,D,λ_ z=>z.elim,λ_ z=>z,λ_ z _=>z,True.intro,h⟩,λ⟨_,_,_,s2,_,_,h⟩=>aY.up h s2⟩
 |A::O,Δ,D=>by
  constructor
  .rintro⟨E1,E2,s1,s2,dj,hA,h⟩;obtain⟨F1,F2,t1,t2,dk,h1,h2⟩:=fT.mp h;refine⟨λa=>E1 a\/F1 a,F2,λa z=>z.elim (s1 a) λz=>s2 a (t1 a z),λa z=>s2 a (t2 a z),λa z w=>z.elim (λz=>dj a z (t2 a w)) λz=>dk a z w,?_,h2⟩;exact⟨E1,F1,λa z=>.inl z,λa z=>.inr z,λa z w=>dj a z (t1 a w),hA,h1⟩
  .rintro⟨D1,D2,s1,s2,dj,⟨E1,E2,t1,t2,dk,hA,h1⟩,h2⟩;refine⟨E1,λa=>E2 a\/D2 a,λa z=>s1 a (t1 a z),λa z=>z.elim (λz=>s1 a (t2 a z)) (s2 a),λa z w=>w.elim (dk a z) λw=>dj a (t1 a z) w,hA,?_⟩;exact fT.mpr ⟨E2,D2,λa z=>.inl z,λa z=>.inr z,λa z w=>dj a (t2 a z) w,h1,h2⟩
def Gg {f:α->List ai}(s:Sep (bx f::O) H):∃ x,Sep (f x++O) H:=by
 obtain⟨D,k,D1,D2,s1,s2,dj,⟨x,h1⟩,h2⟩:=s;exact⟨x,D,k,fT.mpr ⟨D1,D2,s1,s2,dj,h1,h2⟩⟩
def DU {f:α->List ai}(x:α)(s:Sep (f x++O) H):Sep (bx f::O) H:=by
 obtain⟨D,k,h⟩:=s;obtain⟨D1,D2,s1,s2,dj,h1,h2⟩:=fT.mp h;exact⟨D,k,D1,D2,s1,s2,dj,⟨x,h1⟩,h2⟩
abbrev Dq:List Str:=["here","there","left","way","sign","met"]
abbrev qz:V->Bool
 | v0 i=>decide (-1000000000<=i)&&decide (i<=1000000000)
 |_=>false
def nI {t:String}(ro:Ro K R)(hk:2<=k)(ht:tyName v H=some t)(q:Q (.bl (qz v)) H):ae tab R k 7 [v] H Q E:=by
 delta iG;right;refine cZ nofun ht ?_;cases oy ht
 case int i=>
  left;refine aG rfl ?_;left;simp only[ro.g_BOUND];right;refine aN (λh0=>?_) (λh0=>?_)
  .left;simp only[ro.g_BOUND];right;have e:qz (v0 i)=decide (i<=1000000000):=by simp[qz,h0]
   rw[e]at q;exact q
  .right;have e:qz (v0 i)=false:=by simp[qz,h0]
   rw[e]at q;exact q
 all_goals
  right;exact q
def Df {j:Nat}{x:Str}(h:Dq[j]? =some x):(j=0/\x="here")\/(j=1/\x="there")\/(j=2/\x="left")\/(j=3/\x="way")\/(j=4/\x="sign")\/(j=5/\x="met"):=by
 rcases j with _|_|_|_|_|_|j
 .cases h;exact .inl ⟨rfl,rfl⟩
 .cases h;exact .inr (.inl ⟨rfl,rfl⟩)
 .cases h;exact .inr (.inr (.inl ⟨rfl,rfl⟩))
 .cases h;exact .inr (.inr (.inr (.inl ⟨rfl,rfl⟩)))
 .cases h;exact .inr (.inr (.inr (.inr (.inl ⟨rfl,rfl⟩))))
 .cases h;exact .inr (.inr (.inr (.inr (.inr ⟨rfl,rfl⟩))))
 .exact absurd h (by simp[Dq])
local macro_rules| `(tactic|walk_at "sc")=>`(tactic|first|(refine aG (by decide+kernel) ?_;walk_at "go")|(refine aD (by decide+kernel) ?_;walk_at "go"))
abbrev b2i (c:Bool):Int:=match c with
 |true=>1
 |false=>0
def rp {c:Bool}(q:Q (v0 (b2i c)) H):gP G .int [.bl c] H Q:=by
 unfold gP;refine .inl (.inr ⟨c,rfl,?_⟩);cases c<;>exact q
local macro_rules| `(tactic|walk_at "ag")=>`(tactic|first|refine g9 (vs':=[_,_]) rfl ?_|refine g9 (vs':=[_,_,_]) rfl ?_|refine g9 (vs':=[_]) rfl ?_|refine g9 (vs':=[_,_,_,_]) rfl ?_)
local macro_rules| `(tactic|walk_at "mt")=>`(tactic|first|((with_reducible refine' jf Ob_bx ?s ?p ?m ?f ?_);(case s=>with_reducible assumption);(case p=>symm);(case m=>exact rfl);(case f=>exact rfl))|((with_reducible refine' jf Ob_sto ?s ?p ?m ?f ?_);(case s=>with_reducible assumption);(case p=>symm);(case m=>exact rfl);(case f=>exact rfl)))
local macro_rules| `(tactic|walk_at "hq")=>`(tactic|((with_reducible (first|refine' ho_h ?r ?k ?s ?p ?_|refine' ho_t ?r ?k ?s ?p ?_|refine' ho_l ?r ?k ?s ?p ?_|refine' ho_w ?r ?k ?s ?p ?_|refine' ho_s ?r ?k ?s ?p ?_|refine' ho_m ?r ?k ?s ?p ?_));(case r=>with_reducible assumption);(case k=>exact nofun);(case s=>with_reducible assumption);(case p=>symm)))
local macro_rules| `(tactic|walk_at "gq")=>`(tactic|((with_reducible (first|refine' gi_h ?r ?k ?s ?p ?i (λH hs=>?_)|refine' gi_t ?r ?k ?s ?p ?i (λH hs=>?_)|refine' gi_l ?r ?k ?s ?p ?i (λH hs=>?_)|refine' gi_m ?r ?k ?s ?p ?i (λH hs=>?_)));(case r=>with_reducible assumption);(case k=>exact nofun);(case s=>with_reducible assumption);(case p=>ac_rfl);(case i=>omega)))
local macro_rules| `(tactic|walk_at "ws")=>`(tactic|(walk_at "w";repeat(first|(walk_at "st";walk_at "w")|(walk_at "mt";walk_at "w")|(walk_at "ag";(walk_at "hq");walk_at "w")|(walk_at "ag";(walk_at "gq");walk_at "w"))))
local macro_rules| `(tactic|walk_at "sc")=>`(tactic|first|(refine aG (by decide+kernel) ?_;walk_at "go")|(refine aD (by decide+kernel) ?_;walk_at "go"))
abbrev uQ (n:Nat):List Nat:=(Nat.toDigits 10 n).map Char.toNat
def zI:∀ d:Nat,d<10->(Nat.digitChar d).toNat=48+d:=by decide
def mC (h:n<10):uQ n=[48+n]:=by
 unfold uQ;rw[Nat.toDigits_of_lt_base h,List.map_singleton,zI n h]
def pJ (h:10<=n):uQ n=uQ (n / 10)++[48+n % 10]:=by
 have hm:n % 10<10:=Nat.mod_lt n (by decide);have t:Nat.toDigits 10 (n / 10)++Nat.toDigits 10 (n % 10)=Nat.toDigits 10 (10*(n / 10)+n % 10):=Nat.toDigits_append_toDigits (by decide) nofun hm;rw[Nat.div_add_mod]at t;rw[<-mC hm];unfold uQ;rw[<-t,ge]
def vE:∀ {n:Nat},∃ c r,uQ n=c::r/\48<=c:=by
 intro n
 induction n using Nat.strongRecOn with
 |_ n ih=>
  by_cases h:n<10
  .exact⟨_,_,mC h,by omega⟩
  .obtain⟨c,r,e,hc⟩:=ih (n / 10) nofun;exact⟨c,_,by rw[pJ nofun,e];rfl,hc⟩
def zH (m:Nat):(Str.ofString (toString (m:Int))).cps.toList=uQ m:=W.KIN.signs_num m
def Au (m:Nat):(Str.ofString (toString (Int.negSucc m))).cps.toList=45::uQ (m+1):=by
 rw[PyProof.Rows.signs_ofString];show(("-"++Nat.repr (m+1)).toList).map Char.toNat=_;rw[String.toList_append,Nat.toList_repr,ge]
 rfl
abbrev bM:Str:=⟨#[32]⟩
def join_cons {s x y:Str}{r:List Str}:(Str.join s (x::y::r)).cps.toList=x.cps.toList++(s.cps.toList++(Str.join s (y::r)).cps.toList):=by
 show(x++s++Str.join s (y::r):Str).cps.toList=_;rw[W.KT.app_list,W.KT.app_list,lf]
def nS (x:Str)(c:Nat):Txt.split x ⟨#[c]⟩≠[]:=by
 intro h;have e:x=Str.empty:=(StrLaws.join_split x ⟨#[c]⟩).symm.trans (by rw[h];rfl);subst e;have h0:Txt.split Str.empty ⟨#[c]⟩=[Str.empty]:=if_pos (by rw[show decide (Str.empty.length<(⟨#[c]⟩:Str).length)=true from rfl,Bool.true_or]);rw[h0]at h;cases h
abbrev nw (i:Int):Str:=Str.ofString (toString i)
def Er (n:Nat):uQ n≠[]:=λh=>by
 obtain⟨c,r,e,_⟩:=vE (n:=n);rw[e]at h;cases h
def lD:∀ (k n:Nat),n<10 ^ (k+1)->(uQ n).length<=k+1
 |0,n,h=>by rw[mC (by simpa using h)];exact re _
 |k+1,n,h=>by
  by_cases g:n<10
  .rw[mC g];exact Nat.succ_le_succ (Nat.zero_le _)
  .rw[pJ nofun,db];have:=lD k (n / 10) (by rw[Nat.div_lt_iff_lt_mul (by decide)];rw[<-Nat.pow_succ];exact h);exact Nat.succ_le_succ this
def D6 (m:Nat):(nw (m:Int)).cps.toList=uQ m:=zH m
def Ce (m:Nat):(nw (Int.negSucc m)).cps.toList=45::uQ (m+1):=Au m
def jR (h:i.natAbs<=1000000000):(nw i).length<=11/\1<=(nw i).length:=by
 have e:(nw i).length=(nw i).cps.toList.length:=Array.length_toList.symm;rw[e];cases i with
 |ofNat m=>
  have:=lD 9 m (by simp at h;omega);rw[show(nw (Int.ofNat m)).cps.toList=uQ m from D6 m];have:=length_pos_iff.mpr (Er m)
  omega
 |negSucc m=>
  have:=lD 9 (m+1) (by simp[Int.natAbs]at h;omega);rw[Ce,length_cons]
  omega
def gu {r:Int}(h0:0<=r)(h1:r<xs.length)(h:∀ v ∈ xs,P v):∃ v,fH xs r=some v/\P v:=by
 obtain⟨v,hv,hm⟩:=pF h0 h1;exact⟨v,hv,h v hm⟩
abbrev inR (lo hi:Int)(v:V):Prop:=∃ i,v=v0 i/\lo<=i/\i<=hi
def inR.mk (h0:lo<=i)(h1:i<=hi):inR lo hi (v0 i):=⟨i,rfl,h0,h1⟩
def uW {a b:V}(ha:P a)(hb:P b):∀ v ∈ [a,b],P v:=λv hv=>by
 simp only[lw,not_mem_nil,or_false]at hv;rcases hv with rfl|rfl<;>assumption
def G4 {a b c:V}(ha:P a)(hb:P b)(hc:P c):∀ v ∈ [a,b,c],P v:=λv hv=>by
 simp only[lw,not_mem_nil,or_false]at hv;rcases hv with rfl|rfl|rfl<;>assumption
def JN {a b c d:V}(ha:P a)(hb:P b)(hc:P c)(hd:P d):∀ v ∈ [a,b,c,d],P v:=λv hv=>by
 simp only[lw,not_mem_nil,or_false]at hv;rcases hv with rfl|rfl|rfl|rfl<;>assumption
abbrev fM:Nat->j7->j7
 |0,b=>b
 |n+1,.cons _ r=>fM n r
 |_+1,.nil=>.nil
abbrev Nm (w:Str):Prop:=(1<=w.length/\w.length<=8)/\∀ c ∈ w.cps.toList,97<=c/\c<=122
def EW {i j:Str}{b:Bool}(e:(!(Builtin.Str.occurrences j i 0 j.length 1).isEmpty)=b)(q:Q (.bl b) H):m9 K false (v6 i) (v6 j) H Q:=by unfold m9;exact⟨i,rfl,by rw[if_neg (by decide),e];exact q⟩
def eL (hz:z.length<=100000)(q:Q (v0 z.length) H):gP G .len [v6 z] H Q:=by unfold gP;exact⟨_,z.length,rfl,⟨f6 nofun,rfl⟩,q⟩
abbrev ma (c:Nat):Bool:=decide (48<=c)&&decide (c<=57)
abbrev j5:List Nat->List Nat
 |45::r=>r
 |l=>l
abbrev pL (l F:List Nat):Bool:=decide (1<=F.length)&&(decide (F.length<=10)&&(F.all ma&&(decide (l=[48])|| !(F[0]? ==some 48))))
abbrev t9 (w:Str):Bool:=pL w.cps.toList (j5 w.cps.toList)
abbrev uG:List Nat->Int
 |45::r=>-((PySem.NumText.digitsVal r:Nat):Int)
 |l=>((PySem.NumText.digitsVal l:Nat):Int)
abbrev n8 (w:Str):Option Int:=if t9 w then some (uG w.cps.toList) else none
abbrev iO:Option Int->V
 |some i=>v0 i
 |none=>wf
def sC {y:Str}(e:y=⟨#[c]⟩):Txt.startswith z y=(z.cps.toList[0]? ==some c):=by
 subst e;unfold Txt.startswith
 rw[Bool.eq_iff_iff,mo,decide_eq_true_eq,StrLaws.subAt_one,beq_iff_eq]
def nE {r:List Nat}(e:z.cps.toList=c::r):(fv z (some 1) none).cps.toList=r:=by
 have hl:z.length=r.length+1:=by
  have:z.cps.toList.length=z.length:=Array.length_toList;rw[<-this,e,length_cons]
 show((z.cps.toList.drop (HT.aO z.length 0 (some 1))).take (HT.aO z.length z.length none-HT.aO z.length 0 (some 1))).toArray.toList=r;have h1:HT.aO z.length 0 (some 1)=1:=by
  show(if(1:Int)<0 then((1:Int)+(z.length:Int)).toNat else min (1:Int).toNat z.length)=1;rw[if_neg (by decide)];have:(1:Int).toNat=1:=rfl
  omega
 rw[h1,show HT.aO z.length z.length none=z.length from rfl,e,List.drop_one,List.tail_cons,hl];exact take_of_length_le nofun
def IH:("0123456789":Str).cps.toList=[48,49,50,51,52,53,54,55,56,57]:=by decide+kernel
def rV (q:Q (.bl (ma c)) H):m9 K false (v6 ⟨#[c]⟩) (v6 ("0123456789":Str)) H Q:=by
 refine EW (b:=ma c) ?_ q;rw[StrLaws.found_one,IH];unfold ma;rw[Bool.eq_iff_iff,decide_eq_true_eq,mo,decide_eq_true_eq,decide_eq_true_eq];simp only[lw,not_mem_nil,or_false]
 omega
def bX (w:Str):w.length=w.cps.toList.length:=Array.length_toList.symm
def BX {w f:Str}{F:List Nat}(ro:Ro K R)(z:Sep O H)(hfl:f.length<=100000)(hf:f.cps.toList=F)(q:∀ H',Sep O H'->Q (.bl (pL w.cps.toList F)) H'):
  wB (fM 1 cW.body) ⟨tab,R,ae tab R (k-1),true⟩ { nx:=λ_ H'=>Q wf H',rt:=Q } (λ_=>E) [some (v6 w),some (v6 f)] H:=by
 have hl:f.length=F.length:=by rw[<-hf];exact bX f
 right;refine eL (z:=f) nofun ?_;right;refine aN (λg1=>?_) (λg1=>?_)
 rotate_left
 .right;refine cast (congrArg (λb=>Q (.bl b) H) ?_) (q _ z);unfold pL;rw[decide_eq_false nofun]
  rfl
 right;simp only[ro.g_MOST_FIGURES];right;refine aN (λg2=>?_) (λg2=>?_)
 rotate_left
 .right;refine cast (congrArg (λb=>Q (.bl b) H) ?_) (q _ z);unfold pL;rw[decide_eq_true nofun,decide_eq_false nofun]
  rfl
 right;refine lP (z:=f) (by show f.length<=1000;omega) (λD ys H=>ys=(F.map λc=>V.bl (ma c)).take ys.length/\Sep (pt D (wl ys)::O) H) (λD hD=>⟨rfl,z.new (o:=wl []) hD⟩) (λD ys c H hc hI=>?_) (λD ys H hl2 hI=>?_)
 .obtain⟨e,z1⟩:=hI;have hcm:F[ys.length]? =some c:=by rw[<-hf,Array.getElem?_toList];exact hc
  right;simp only[ro.g_FIGURES];left;refine rV ?_;have hyl:ys.length<F.length:=(sK.mp hcm).1;refine oB.mk z1.at nofun ⟨?_,z1.set rfl⟩;rw[db,gt,take_add_one,<-e,jp,hcm]
  rfl
 .obtain⟨e,z1⟩:=hI;rw[hl2,show f.cps.size=F.length from hl,take_of_length_le (by rw[cr];exact re _)]at e;subst e;left;refine pQ (bs:=F.map ma) (K:=K) rfl (by rw[z1.at,List.map_map];rfl) ?_;have z2:=z1.drop;rw[show(F.map ma).all id=F.all ma by rw[List.all_map];rfl]
  by_cases g3:F.all ma=true
  .rw[g3];right;have e0:pL w.cps.toList F=(decide (w.cps.toList=[48])|| !(F[0]? ==some 48)):=by
    unfold pL;rw[decide_eq_true nofun,decide_eq_true nofun,g3]
    rfl
   rw[e0]at q;have e1:gL (v6 w) (v6 (Str.ofString "0"))=decide (w.cps.toList=[48]):=by
    show(w ==Str.ofString "0")=_;rw[Bool.eq_iff_iff,beq_iff_eq,decide_eq_true_eq];refine⟨λe=>by rw[e];decide+kernel,λe=>PyProof.Rows.ext_toList (e.trans (by decide+kernel))⟩
   rw[e1]
   by_cases g4:w.cps.toList=[48]
   .rw[decide_eq_true g4]at q⊢;refine aG rfl ?_;right;exact q _ z2
   .rw[decide_eq_false g4]at q⊢;refine aD rfl ?_;right;refine⟨_,rfl,?_⟩;left;refine lb ?_;right;rw[sC (c:=48) (by decide+kernel),hf];exact q _ z2
  .have g3:F.all ma=false:=by simpa using g3
   rw[g3];right;refine cast (congrArg (λb=>Q (.bl b) H) ?_) (q _ z2);unfold pL;rw[decide_eq_true nofun,decide_eq_true nofun,g3]
   rfl
def FZ {w:Str}(ro:Ro K R)(hk:1<=k)(z:Sep O H)(hw:w.length<=100000)(q:∀ H',Sep O H'->Q (.bl (t9 w)) H'):ae tab R k 37 [v6 w] H Q E:=by
 delta cW;right;refine⟨_,rfl,?_⟩;left;refine lb ?_;rw[sC (c:=45) (by decide+kernel)];unfold t9 at q
 by_cases h:∃ r,w.cps.toList=45::r
 .obtain⟨r,e⟩:=h;have e2:=nE e;have e3:=gG w (some 1) none;rw[show(w.cps.toList[0]? ==some 45)=true by rw[e];rfl];refine aG rfl ?_;left;refine Ew (z:=w) nofun ?_;left;refine BX (w:=w) (k:=k) ro z nofun e2 (λH' z'=>?_);rw[show j5 w.cps.toList=r by rw[e];rfl]at q;exact q H' z'
 .have g:(w.cps.toList[0]? ==some 45)=false:=beq_eq_false_iff_ne.mpr λe=>h (by
   cases hL:w.cps.toList with
   |nil=>rw[hL]at e;cases e
   |cons c r=>rw[hL]at e;exact⟨r,by rw[show c=45 from Option.some.inj e]⟩)
  rw[g];refine aD rfl ?_;left;refine BX (w:=w) (f:=w) (k:=k) ro z hw rfl (λH' z'=>?_);have e:j5 w.cps.toList=w.cps.toList:=by
   cases hL:w.cps.toList with
   |nil=>rfl
   |cons c r=>
    unfold j5
    split
    .rename_i hh;exact absurd ⟨_,hL.trans hh⟩ h
    .rfl
  rw[e]at q;exact q H' z'
def rD {w:Str}(h:t9 w=true):PySem.intText? w=some (uG w.cps.toList)/\w.length<=11:=by
 have hlw:=bX w;unfold t9 pL at h;simp only[mo,decide_eq_true_eq]at h;obtain⟨h1,h2,h3,_⟩:=h;have ad:∀ F:List Nat,F.all ma=true->PySem.NumText.AllDigits F:=λF hF c hc=>by
  have:=all_eq_true.mp hF c hc;unfold ma at this;simpa using this
 by_cases g:∃ r,w.cps.toList=45::r
 .obtain⟨r,e⟩:=g;rw[e]at h1 h2 h3 hlw;have h1:1<=r.length:=h1;have h2:r.length<=10:=h2;rw[length_cons]at hlw;refine⟨?_,by omega⟩;rw[PySem.intText_neg e (ad r h3) (length_pos_iff.mp h1) nofun,e]
  rfl
 .have e:j5 w.cps.toList=w.cps.toList/\uG w.cps.toList=((PySem.NumText.digitsVal w.cps.toList:Nat):Int):=by
   cases hL:w.cps.toList with
   |nil=>exact⟨rfl,rfl⟩
   |cons c r=>
    constructor
    .unfold j5
     split
     .rename_i hh;exact absurd ⟨_,hL.trans hh⟩ g
     .rfl
    .unfold uG
     split
     .rename_i hh;exact absurd ⟨_,hL.trans hh⟩ g
     .rfl
  rw[e.1]at h1 h2 h3;refine⟨?_,by omega⟩;rw[PySem.intText_digits (ad _ h3) (length_pos_iff.mp h1) nofun,e.2]
def Bd {w:Str}(ro:Ro K R)(hk:2<=k)(z:Sep O H)(hw:w.length<=100000)(q:∀ H',Sep O H'->Q (iO (n8 w)) H'):ae tab R k 38 [v6 w] H Q E:=by
 delta dA;right;refine aS ?_;right;refine FZ ro nofun z hw λH1 z1=>?_
 unfold n8 at q
 by_cases h:t9 w=true
 .obtain⟨e1,e2⟩:=rD h;rw[h]at q⊢;right;refine gB (z:=w) e1 nofun ?_;right;exact q _ z1
 .have h:t9 w=false:=by simpa using h
  rw[h]at q⊢;right;exact q _ z1
def Cs (hk:2<=k)(q:Q wf H):ae tab R k 38 [wf] H Q E:=by
 delta dA;right;refine aS ?_;right;exact q
abbrev bI (R:Rt)(dx q:Addr)(n:Nat):HO:=wp (R.cad 22) dx [("queue",ut q),("at",v0 (n:Int))]
abbrev bP (ws:List Str):HO:=wl (ws.map v6)
def By {ws:List Str}{w:Str}(h:ws[n]? =some w):fH (ws.map v6) (n:Int)=some (v6 w):=by
 have hn:n<ws.length:=(sK.mp h).1;have e:rE ws.length (n:Int)=some n:=by unfold rE;simp;omega
 unfold fH;simp[h,cr,e]
def bA (hk:1<=k)(s:Sep (pt x (.exc (R.cad 4) none [] true)::O) H)(q:∀ d H',Sep (pt x (.exc (R.cad 4) (some d) [("at",v)] true)::pt d (.own x)::O) H'->Q wf H'):ae tab R k 3 [ut x,v] H Q E:=by
 delta bZ;right;refine⟨_,4,_,_,_,_,rfl,by grind,rfl,?_⟩;right;refine FD s rfl rfl (λd H hs=>?_);right;exact q d H hs
abbrev wO:Option Str->V
 |some w=>v6 w
 |none=>wf
section
variable {a dx qa:Addr}{n:Nat}{ws:List Str}{w:Str}
def d4 (hk:1<=k)(z:Sep (pt a (bI R dx qa n)::pt qa (bP ws)::O) H)(q:Q (wO ws[n]?) H):ae tab R k 40 [ut a] H Q E:=by
 delta dz;have e1:=z.at;have e2:=(z.pull .k1).at;unfold bI at e1;unfold bP at e2;right;refine aj e1 rfl rfl rfl ?_;right;refine aj e1 rfl rfl rfl ?_;right;refine c6 e2 ?_;right
 by_cases hn:n<ws.length
 .obtain⟨w,hw⟩:∃ w,ws[n]? =some w:=⟨_,li hn⟩;rw[hw]at q;refine aG (decide_eq_true (by rw[cr];omega)) ?_;right;refine aj e1 rfl rfl rfl ?_;right;refine aj e1 rfl rfl rfl ?_;right;refine aT e2 (By hw) ?_;right;exact q
 .rw[getElem?_eq_none nofun]at q;refine aD (decide_eq_false (by rw[cr];omega)) ?_;right;exact q
def lY (hk:1<=k)(z:Sep (pt a (bI R dx qa n)::pt qa (bP ws)::O) H)(hw:ws[n]? =some w)(q:∀ H',Sep (pt a (bI R dx qa (n+1))::pt qa (bP ws)::O) H'->Q (v6 w) H'):ae tab R k 41 [ut a,.bl true] H Q E:=by
 delta cj;have e1:=z.at;have e2:=(z.pull .k1).at;unfold bI at e1;unfold bP at e2;right;refine aj e1 rfl rfl rfl ?_;right;refine aj e1 rfl rfl rfl ?_;right;refine aT e2 (By hw) ?_;right;refine aj e1 rfl rfl rfl ?_;right;refine Cj z .e rfl rfl (by show 2<1000;omega) (fs':=[("queue",ut qa),("at",v0 ((n+1:Nat):Int))]) ?_ λH1 z1=>?_
 .rfl
 right;exact q _ z1
def b6 (hk:2<=k)(z:Sep (pt a (bI R dx qa n)::pt qa (bP ws)::O) H)(r:∀ e H',Sep (lZ (R.cad 4) [("at",v0 (n:Int))] e false::O) H'->E e H'):ae tab R k 41 [ut a,.bl false] H Q E:=by
 delta cj;have e1:=z.at;unfold bI at e1;have z1:=z.drop.drop;right;refine aj e1 rfl rfl rfl ?_;right;exact λe he=>bA nofun (z1.new he) (λd H3 hs3=>⟨rfl,lC (G:=⟨tab,R,ae tab R (k-1),true⟩) hs3 .e rfl (λH4 hs4=>r e H4 (rX hs4))⟩)
end
abbrev numAt (ws:List Str)(n:Nat):Option Int:=ws[n]?.bind n8
section
variable {a dx qa:Addr}{n:Nat}{ws:List Str}{w:Str}
def zl (ro:Ro K R)(hk:2<=k)(hs:∀ w ∈ ws,w.length<=100000) (z:Sep O H) (q:∀ H',Sep O H'->Q (iO (numAt ws n)) H'):ae tab R k 38 [wO ws[n]?] H Q E:=by
 unfold numAt at q;cases e:ws[n]? with
 |none=>
  rw[e]at q;exact Cs hk (q _ z)
 |some w=>
  rw[e]at q;exact Bd ro hk z (hs w (dl e)) q
def cM (h:numAt ws n=some i):∃ w,ws[n]? =some w:=by
 unfold numAt at h;cases e:ws[n]? with
 |none=>rw[e]at h;cases h
 |some w=>exact⟨w,rfl⟩
def pO (ro:Ro K R)(hk:3<=k)(hs:∀ w ∈ ws,w.length<=100000) (z:Sep (pt a (bI R dx qa n)::pt qa (bP ws)::O) H)
  (q:∀ i H',numAt ws n=some i->lo<=i->i<=hi->Sep (pt a (bI R dx qa (n+1))::pt qa (bP ws)::O) H'->Q (v0 i) H')
  (r:(∀ i,numAt ws n=some i->¬ (lo<=i/\i<=hi))->∀ e H',Sep (lZ (R.cad 4) [("at",v0 (n:Int))] e false::O) H'->E e H'):ae tab R k 46 [ut a,v0 lo,v0 hi] H Q E:=by
 delta bD;right;refine⟨_,22,_,_,_,rfl,z.at,rfl,rfl,?_⟩;right;refine d4 nofun z ?_;right;refine zl ro nofun hs z λH1 z1=>?_
 cases e:numAt ws n with
 |none=>
  right;refine⟨_,22,_,_,_,rfl,z1.at,rfl,rfl,?_⟩;right;refine aS ?_;right;exact b6 nofun z1 (r λi h=>by rw[e]at h;cases h)
 |some i=>
  obtain⟨w,hw⟩:=cM e;right;refine⟨_,22,_,_,_,rfl,z1.at,rfl,rfl,?_⟩;right;refine aS ?_;right;refine aN (λh1=>?_) (λh1=>?_)
  .right
   by_cases h2:i<=hi
   .have e2:((λ(i j:Int)=>decide (i<=j)) i hi)=true:=decide_eq_true h2;rw[e2];refine lY nofun z1 hw λH2 z2=>?_
    right;exact q i _ e h1 h2 z2
   .have e2:((λ(i j:Int)=>decide (i<=j)) i hi)=false:=decide_eq_false h2;rw[e2];exact b6 nofun z1 (r λj h hh=>by rw[e]at h;cases h;exact h2 hh.2)
  .right;exact b6 nofun z1 (r λj h hh=>by rw[e]at h;cases h;exact h1 hh.1)
end
section
variable {a dx qa:Addr}{n:Nat}{ws:List Str}{w:Str}
abbrev isAt (ws:List Str)(n:Nat)(w:Str):Bool:=decide (ws[n]? =some w)
def BD {o:Option Str}:gL (wO o) (v6 w)=decide (o=some w):=by
 cases o with
 |none=>rfl
 |some v=>
  show(v ==w)=_;rw[Bool.eq_iff_iff,beq_iff_eq,decide_eq_true_eq];exact⟨λe=>by rw[e],λe=>Option.some.inj e⟩
def rf {o:Option Str}:aE (wO o)=true:=by cases o<;>rfl
def aH (hk:2<=k)(z:Sep (pt a (bI R dx qa n)::pt qa (bP ws)::O) H)
  (q:∀ H',isAt ws n w=true->Sep (pt a (bI R dx qa (n+1))::pt qa (bP ws)::O) H'->Q (.bl true) H') (q2:isAt ws n w=false->Q (.bl false) H):ae tab R k 42 [ut a,v6 w] H Q E:=by
 delta dG;have e1:=z.at;unfold bI at e1;right;refine⟨_,22,_,_,_,rfl,z.at,rfl,rfl,?_⟩;right;refine d4 nofun z ?_;refine rL rf rfl ?_;rw[BD];unfold isAt at q q2
 by_cases h:ws[n]? =some w
 .rw[decide_eq_true h]at q⊢;right;refine aj e1 rfl rfl rfl ?_;right;refine Cj z .e rfl rfl (by show 2<1000;omega) (fs':=[("queue",ut qa),("at",v0 ((n+1:Nat):Int))]) ?_ λH1 z1=>?_
  .rfl
  right;exact q _ rfl z1
 .rw[decide_eq_false h]at q2⊢;right;exact q2 rfl
def fD (hk:3<=k)(z:Sep (pt a (bI R dx qa n)::pt qa (bP ws)::O) H)
  (q:∀ H',isAt ws n w=true->Sep (pt a (bI R dx qa (n+1))::pt qa (bP ws)::O) H'->Q (v6 w) H')
  (r:isAt ws n w=false->∀ e H',Sep (lZ (R.cad 4) [("at",v0 (n:Int))] e false::O) H'->E e H'):ae tab R k 43 [ut a,v6 w] H Q E:=by
 delta bO;right;refine⟨_,22,_,_,_,rfl,z.at,rfl,rfl,?_⟩;right;refine⟨_,22,_,_,_,rfl,z.at,rfl,rfl,?_⟩;right;refine d4 nofun z ?_;refine bB rf rfl ?_;rw[BD];unfold isAt at q r
 by_cases h:ws[n]? =some w
 .rw[decide_eq_true h]at q⊢;right;refine lY nofun z h λH1 z1=>?_
  right;exact q _ rfl z1
 .rw[decide_eq_false h]at r⊢;right;exact b6 nofun z (r rfl)
end
abbrev ie:V->Bool
 | v6 x=>uM (v6 x) (Dq.map v6)
 |_=>false
def mK {t:String}(ro:Ro K R)(hk:1<=k)(ht:tyName v H=some t)(q:Q (.bl (ie v)) H):ae tab R k 6 [v] H Q E:=by
 delta nP;right;obtain⟨a,hg,hs⟩:=ro.g_NAMES;have hs':=hs H;rw[<-ro.hK]at hs';cases oy ht
 case str x=>
  refine jO ht rfl ?_;left;refine aG rfl ?_;left;simp only[hg];right;exact Iw hs' rfl rfl q
 all_goals
  refine jO ht rfl ?_;right;exact q
def wJ {j:Nat}{x:Str}(hj:Dq[j]? =some x):ie (v6 x)=true:=by
 rcases Df hj with⟨rfl,rfl⟩|⟨rfl,rfl⟩|⟨rfl,rfl⟩|⟨rfl,rfl⟩|⟨rfl,rfl⟩|⟨rfl,rfl⟩<;>rfl
abbrev isA (c:Nat):Bool:=decide (97<=c)&&decide (c<=122)
abbrev jF (w:Str):Bool:=decide (1<=w.length)&&(decide (w.length<=8)&&w.cps.toList.all isA)
def GL:("abcdefghijklmnopqrstuvwxyz":Str).cps.toList=[97,98,99,100,101,102,103,104,105,106,107,108,109,110,111,112,113,114,115,116,117,118,119,120,121,122]:=by decide+kernel
def xS (q:Q (.bl (isA c)) H):m9 K false (v6 ⟨#[c]⟩) (v6 ("abcdefghijklmnopqrstuvwxyz":Str)) H Q:=by
 refine EW (b:=isA c) ?_ q;rw[StrLaws.found_one,GL];unfold isA;rw[Bool.eq_iff_iff,decide_eq_true_eq,mo,decide_eq_true_eq,decide_eq_true_eq];simp only[lw,not_mem_nil,or_false]
 omega
def uA {w:Str}(ro:Ro K R)(hk:1<=k)(hw:w.length<=100000)(z:Sep O H)(q:∀ H',Sep O H'->Q (.bl (jF w)) H'):ae tab R k 36 [v6 w] H Q E:=by
 have hz:w.cps.size=w.length:=rfl;delta gR;right;refine eL (z:=w) nofun ?_;right;refine aN (λg1=>?_) (λg1=>?_)
 rotate_left
 .right;refine cast (congrArg (λb=>Q (.bl b) H) ?_) (q _ z);unfold jF;rw[decide_eq_false nofun]
  rfl
 right;simp only[ro.g_LONGEST_NAME];right;refine aN (λg2=>?_) (λg2=>?_)
 rotate_left
 .right;refine cast (congrArg (λb=>Q (.bl b) H) ?_) (q _ z);unfold jF;rw[decide_eq_true nofun,decide_eq_false nofun]
  rfl
 right;refine lP (z:=w) nofun (λD ys H=>ys=(w.cps.toList.map λc=>V.bl (isA c)).take ys.length/\Sep (pt D (wl ys)::O) H) (λD hD=>⟨rfl,z.new (o:=wl []) hD⟩) (λD ys c H hc hI=>?_) (λD ys H hl hI=>?_)
 .obtain⟨e,z1⟩:=hI;have hcm:w.cps.toList[ys.length]? =some c:=by rw[Array.getElem?_toList];exact hc
  have hyl:ys.length<w.cps.size:=(Array.getElem?_eq_some_iff.mp hc).1;right;simp only[ro.g_LETTERS];left;refine xS ?_;refine oB.mk z1.at nofun ⟨?_,z1.set rfl⟩;rw[db,gt,take_add_one,<-e,jp,hcm]
  rfl
 .obtain⟨e,z1⟩:=hI;rw[hl,take_of_length_le (by rw[cr,Array.length_toList];exact re _)]at e;subst e;left;refine pQ (bs:=w.cps.toList.map isA) (K:=K) rfl (by rw[z1.at,List.map_map];rfl) ?_;refine cast (congrArg (λb=>Q (.bl b) H) ?_) (q _ z1.drop);unfold jF;rw[decide_eq_true nofun,decide_eq_true nofun,List.all_map]
  rfl
def uo (hk:1<=k)(q:Q (.bl false) H):ae tab R k 36 [wf] H Q E:=by
 delta gR;right;exact q
section
variable {a dx qa:Addr}{n:Nat}{ws:List Str}{w:Str}
def qP (ro:Ro K R)(hk:3<=k)(hs:∀ w ∈ ws,w.length<=100000) (z:Sep (pt a (bI R dx qa n)::pt qa (bP ws)::O) H)
  (q:∀ w H',ws[n]? =some w->jF w=true->Sep (pt a (bI R dx qa (n+1))::pt qa (bP ws)::O) H'->Q (v6 w) H')
  (r:(ws[n]?).any jF=false->∀ e H',Sep (lZ (R.cad 4) [("at",v0 (n:Int))] e false::O) H'->E e H'):ae tab R k 44 [ut a] H Q E:=by
 delta bR;right;refine⟨_,22,_,_,_,rfl,z.at,rfl,rfl,?_⟩;right;refine⟨_,22,_,_,_,rfl,z.at,rfl,rfl,?_⟩;right;refine d4 nofun z ?_;right;cases e:ws[n]? with
 |none=>
  refine uo nofun ?_;right;exact b6 nofun z (r (by rw[e];rfl))
 |some w=>
  refine uA ro nofun (hs w (dl e)) z λH1 z1=>?_
  by_cases g:jF w=true
  .rw[g];right;refine lY nofun z1 e λH2 z2=>?_
   right;exact q w _ e g z2
  .have g:jF w=false:=by simpa using g
   rw[g];right;exact b6 nofun z1 (r (by rw[e];exact g))
def tG (ro:Ro K R)(hk:3<=k)(z:Sep (pt a (bI R dx qa n)::pt qa (bP ws)::O) H)
  (q:∀ w H',ws[n]? =some w->ie (v6 w)=true->Sep (pt a (bI R dx qa (n+1))::pt qa (bP ws)::O) H'->Q (v6 w) H')
  (r:ie (wO ws[n]?)=false->∀ e H',Sep (lZ (R.cad 4) [("at",v0 (n:Int))] e false::O) H'->E e H'):ae tab R k 45 [ut a] H Q E:=by
 delta cf;right;refine⟨_,22,_,_,_,rfl,z.at,rfl,rfl,?_⟩;right;refine⟨_,22,_,_,_,rfl,z.at,rfl,rfl,?_⟩;right;refine d4 nofun z ?_;right;cases e:ws[n]? with
 |none=>
  refine mK ro nofun (t:="NoneType") rfl ?_;rw[e]at r
  by_cases g:ie (wO none)=true
  .cases g
  .have g:ie (wO none)=false:=by simpa using g
   rw[show ie (wO none)=false from g];right;exact b6 nofun z (r g)
 |some w=>
  rw[e]at r;refine mK ro nofun (t:="str") rfl ?_
  by_cases g:ie (v6 w)=true
  .rw[show ie (wO (some w))=true from g];right;refine lY nofun z e λH2 z2=>?_
   right;exact q w _ e g z2
  .have g:ie (v6 w)=false:=by simpa using g
   rw[show ie (wO (some w))=false from g];right;exact b6 nofun z (r g)
end
abbrev Ob (R:Rt)(A:ai)(b:Addr)(i:Nat)(fl:List Str):Prop:=∀ H D,A.p H D->∃ dx fs,H b=some (wp (R.cad i) dx fs)/\fs.map (·.1)=fl
def sv {m:Str}:∀ {fs:List (Str×V)},(fs.map (·.1)).all (λx=>!(m ==x))=true->fs.lookup m=none
 | [],_=>rfl
 |(x,v)::fs,h=>by
  simp only[map_cons,all_cons,mo]at h;have h1:(m ==x)=false:=by simpa using h.1
  rw[lookup_cons,h1];exact sv h.2
def jf {A:ai}{b:Addr}{i f:Nat}{fl:List Str}{m:Str}{X:Nat->Prop}(o:Ob G.R A b i fl)(s:Sep O H)(p:aw A O Δ)(hm:fl.all (λx=>!(m ==x))=true) (hf:G.T.me.lookup (i,m)=some f) (h:X f):
  ∃ p' i' dx fs f',ut b=ut p'/\H p'=some (wp (G.R.cad i') dx fs)/\fs.lookup m=none/\G.T.me.lookup (i',m)=some f'/\X f':=by
 obtain⟨D,k,D1,D2,s1,s2,dj,h1,h2⟩:=s.pull p;obtain⟨dx,fs,e1,e2⟩:=o H D1 h1;exact⟨b,i,dx,fs,f,rfl,e1,sv (e2▸hm),hf,h⟩
def g9 {T:Tab}{f:Nat}{vs':List V}(e:vs=vs')(h:ae T R k f vs' H Q E):ae T R k f vs H Q E:=e▸h
abbrev dd (R:Rt)(d:Addr)(c:Nat):ai:=bx λdx:Addr=>[pt d (wp (R.cad c) dx []),pt dx (.own d)]
def Ia (s:Sep (pt d (wp (R.cad c) dx [])::pt dx (.own d)::O) H):Sep (dd R d c::O) H:=DU dx s
def Fi:Ob R (dd R d c) d c []:=by
 rintro H D ⟨dx,D1,D2,_,_,_,⟨_,h⟩,_⟩;exact⟨dx,_,h,rfl⟩
inductive Wd where
 |copy|fill|seek|mtch|shift|turn
abbrev Wd.s:Wd->Str
 | .copy=>"copy"
 | .fill=>"fill"
 | .seek=>"seek"
 | .mtch=>"match"
 | .shift=>"shift"
 | .turn=>"turn"
abbrev Wd.cl:Wd->Nat
 | .copy=>16
 | .fill=>17
 | .seek=>18
 | .mtch=>19
 | .shift=>20
 | .turn=>21
inductive Bn where
 |h
 |t
 |l
 |w
 |s
 |m
abbrev Bn.j:Bn->Nat
 | .h=>0
 | .t=>1
 | .l=>2
 | .w=>3
 | .s=>4
 | .m=>5
abbrev Bn.nm:Bn->Str
 | .h=>"here"
 | .t=>"there"
 | .l=>"left"
 | .w=>"way"
 | .s=>"sign"
 | .m=>"met"
def Bn.at (b:Bn):Dq[b.j]? =some b.nm:=by cases b<;>rfl
def BI {r:Int}(h0:0<=r)(h1:r<6):∃ b:Bn,fH [v6 "here",v6 "there",v6 "left",v6 "way",v6 "sign",v6 "met"] r=some (v6 b.nm):=by
 have:r=0\/r=1\/r=2\/r=3\/r=4\/r=5:=by omega
 rcases this with rfl|rfl|rfl|rfl|rfl|rfl
 .exact⟨.h,rfl⟩
 .exact⟨.t,rfl⟩
 .exact⟨.l,rfl⟩
 .exact⟨.w,rfl⟩
 .exact⟨.s,rfl⟩
 .exact⟨.m,rfl⟩
inductive Sp where
 |set (b:Bn) (i:Int)
 |add (b:Bn) (i:Int)
 |take (b c:Bn)
 |read (b:Bn)
 |write (b:Bn)
abbrev Sp.w:Sp->Str
 | .set _ _=>"set"
 | .add _ _=>"add"
 | .take _ _=>"take"
 | .read _=>"read"
 | .write _=>"write"
abbrev Sp.tl:Sp->List V
 | .set b i=>[v6 "set",v6 b.nm,v0 i]
 | .add b i=>[v6 "add",v6 b.nm,v0 i]
 | .take b c=>[v6 "take",v6 b.nm,v6 c.nm]
 | .read b=>[v6 "read",v6 b.nm]
 | .write b=>[v6 "write",v6 b.nm]
abbrev Sp.cl:Sp->Nat
 | .set _ _=>7
 | .add _ _=>8
 | .take _ _=>9
 | .read _=>10
 | .write _=>11
abbrev Sp.fs:Sp->List (Str×V)
 | .set b i=>[("box",v6 b.nm),("number",v0 i)]
 | .add b i=>[("box",v6 b.nm),("number",v0 i)]
 | .take b c=>[("box",v6 b.nm),("other",v6 c.nm)]
 | .read b=>[("box",v6 b.nm)]
 | .write b=>[("box",v6 b.nm)]
abbrev Sp.ok:Sp->Prop
 | .set _ i=>-1000000000<=i/\i<=1000000000
 | .add _ i=>-1000000000<=i/\i<=1000000000
 |_=>True
abbrev sd (R:Rt)(d:Addr)(sp:Sp):ai:=bx λdx:Addr=>[pt d (wp (R.cad sp.cl) dx sp.fs),pt dx (.own d)]
def vp (s:Sep (pt d (wp (R.cad sp.cl) dx sp.fs)::pt dx (.own d)::O) H):Sep (sd R d sp::O) H:=DU dx s
def Ff (s:Sep O H)(p:aw (sd R d sp) O Δ):∃ dx,H d=some (wp (R.cad sp.cl) dx sp.fs):=by
 obtain⟨dx,s⟩:=Gg (s.pull p);exact⟨dx,Sep.at s⟩
def FX:Ob R (sd R d sp) d sp.cl (sp.fs.map (·.1)):=by
 rintro H D ⟨dx,D1,D2,_,_,_,⟨_,h⟩,_⟩;exact⟨dx,_,h,rfl⟩
def a3 {w:Str}{n:Bn}(ro:Ro K R)(hk:2<=k)(q:Q wf H):ae tab R k 8 [v6 w,v6 n.nm] H Q E:=by
 delta iD;right;refine mK (t:="str") ro nofun rfl ?_;rw[wJ n.at];right;exact q
def dW {w:Str}(ro:Ro K R)(hk:3<=k)(h0: -1000000000<=i)(h1:i<=1000000000)(q:Q wf H):ae tab R k 9 [v6 w,v0 i] H Q E:=by
 delta dM;right;refine nI (t:="int") ro nofun rfl ?_;rw[show qz (v0 i)=true by simp[qz,h0,h1]];right;exact q
def GY {n:Bn}(ro:Ro K R)(hk:4<=k)(h0: -1000000000<=i)(h1:i<=1000000000)(z:Sep (pt x (wp (R.cad 7) dx [])::pt dx (.own x)::O) H)(q:∀ H',Sep (sd R x (.set n i)::O) H'->Q wf H'):ae tab R k 10 [ut x,v6 n.nm,v0 i] H Q E:=by
 delta dC;right;refine a3 ro nofun ?_;right;refine dW ro nofun h0 h1 ?_;right;exact q _ (vp (by assumption))
def Gn {n:Bn}(ro:Ro K R)(hk:4<=k)(h0: -1000000000<=i)(h1:i<=1000000000)(z:Sep (pt x (wp (R.cad 8) dx [])::pt dx (.own x)::O) H)(q:∀ H',Sep (sd R x (.add n i)::O) H'->Q wf H'):ae tab R k 12 [ut x,v6 n.nm,v0 i] H Q E:=by
 delta dF;right;refine a3 ro nofun ?_;right;refine dW ro nofun h0 h1 ?_;right;exact q _ (vp (by assumption))
def Fh {n m:Bn}(ro:Ro K R)(hk:4<=k)(z:Sep (pt x (wp (R.cad 9) dx [])::pt dx (.own x)::O) H)(q:∀ H',Sep (sd R x (.take n m)::O) H'->Q wf H'):ae tab R k 14 [ut x,v6 n.nm,v6 m.nm] H Q E:=by
 delta dn;right;refine a3 ro nofun ?_;right;refine a3 ro nofun ?_;right;exact q _ (vp (by assumption))
def F5 {n:Bn}(ro:Ro K R)(hk:4<=k)(z:Sep (pt x (wp (R.cad 10) dx [])::pt dx (.own x)::O) H)(q:∀ H',Sep (sd R x (.read n)::O) H'->Q wf H'):ae tab R k 16 [ut x,v6 n.nm] H Q E:=by
 delta dm;right;refine a3 ro nofun ?_;right;exact q _ (vp (by assumption))
def GJ {n:Bn}(ro:Ro K R)(hk:4<=k)(z:Sep (pt x (wp (R.cad 11) dx [])::pt dx (.own x)::O) H)(q:∀ H',Sep (sd R x (.write n)::O) H'->Q wf H'):ae tab R k 18 [ut x,v6 n.nm] H Q E:=by
 delta cO;right;refine a3 ro nofun ?_;right;exact q _ (vp (by assumption))
abbrev jK:V->Bool
 | v0 i=>decide (0<=i)&&decide (i<=24)
 |_=>false
abbrev EJ:V->Bool
 | wf=>true
 | v0 i=>i ==0||i ==1
 |_=>false
def tI {t:String}(ro:Ro K R)(hk:2<=k)(ht:tyName v H=some t)(q:Q (.bl (jK v)) H):ae tab R k 20 [v] H Q E:=by
 delta kL;right;refine cZ nofun ht ?_;cases oy ht
 case int i=>
  right;refine aN (λh0=>?_) (λh0=>?_)
  .left;simp only[ro.g_MOST_HOPPED];right;rw[show jK (v0 i)=decide (i<=24) by simp[jK,h0]]at q;exact q
  .right;rw[show jK (v0 i)=false by simp[jK,h0]]at q;exact q
 all_goals
  right;exact q
def AV {t:String}(hk:2<=k)(ht:tyName v H=some t)(q:Q (.bl (EJ v)) H):ae tab R k 21 [v] H Q E:=by
 delta sL;right;refine aB ?_;cases oy ht
 case int i=>
  left;refine aD rfl ?_;right;refine cZ (t:="int") nofun rfl ?_;right;refine cN (λh0=>?_) (λh0=>?_)
  .right;rw[show EJ (v0 i)=true by simp[EJ,h0]]at q;exact q
  .right;rw[show EJ (v0 i)=(i ==1) by simp[EJ,h0]]at q;exact q
 case non=>
  left;refine aG rfl ?_;exact q
 all_goals
  left;refine aD rfl ?_;right;refine cZ nofun ht ?_;right;exact q
abbrev oV:Option Int->V
 |none=>wf
 |some i=>v0 i
abbrev CJ:Option Int->Prop
 |none=>True
 |some i=>i=0\/i=1
abbrev EK (R:Rt)(d:Addr)(n:Int)(o:Option Int):ai:=bx λdx:Addr=>[pt d (wp (R.cad 12) dx [("many",v0 n),("on",oV o)]),pt dx (.own d)]
def IA {n:Int}(s:Sep (pt d (wp (R.cad 12) dx [("many",v0 n),("on",oV o)])::pt dx (.own d)::O) H):Sep (EK R d n o::O) H:=DU dx s
def BY {n:Int}(s:Sep O H)(p:aw (EK R d n o) O Δ):∃ dx,H d=some (wp (R.cad 12) dx [("many",v0 n),("on",oV o)]):=by
 obtain⟨dx,s⟩:=Gg (s.pull p);exact⟨dx,Sep.at s⟩
def Fn {n:Int}:Ob R (EK R d n o) d 12 ["many","on"]:=by
 rintro H D ⟨dx,D1,D2,_,_,_,⟨_,h⟩,_⟩;exact⟨dx,_,h,rfl⟩
def BS {n:Int}(ro:Ro K R)(hk:4<=k)(h0:0<=n)(h1:n<=24)(ho:CJ o)(z:Sep (pt x (wp (R.cad 12) dx [])::pt dx (.own x)::O) H)(q:∀ H',Sep (EK R x n o::O) H'->Q wf H'):ae tab R k 22 [ut x,v0 n,oV o] H Q E:=by
 delta dX;right;refine tI (t:="int") ro nofun rfl ?_;rw[show jK (v0 n)=true by simp[jK,h0,h1]];right;obtain⟨t,ht⟩:∃ t,tyName (oV o) H=some t:=by cases o<;>exact⟨_,rfl⟩
 refine AV nofun ht ?_;rw[show EJ (oV o)=true by cases o with|none=>rfl|some i=>rcases ho with rfl|rfl<;>rfl];right;exact q _ (IA (by assumption))
inductive Rw where
 |lg (w:Wd)
 |sp (s:Sp)
 |hop (n:Int) (o:Option Int)
abbrev Rw.tl:Rw->List V
 | .lg w=>[v6 w.s]
 | .sp s=>s.tl
 | .hop n o=>[v6 "hop",v0 n,oV o]
abbrev Rw.ok:Rw->Prop
 | .lg _=>True
 | .sp s=>s.ok
 | .hop n o=>(0<=n/\n<=24)/\CJ o
abbrev Rw.cl:Rw->Nat
 | .lg w=>w.cl
 | .sp s=>s.cl
 | .hop _ _=>12
abbrev yn (R:Rt)(d:Addr):Rw->ai
 | .lg w=>dd R d w.cl
 | .sp s=>sd R d s
 | .hop n o=>EK R d n o
abbrev Rw.fs:Rw->List Str
 | .lg _=>[]
 | .sp s=>s.fs.map (·.1)
 | .hop _ _=>["many","on"]
def xK (r:Rw):Ob R (yn R d r) d r.cl r.fs:=by
 cases r with
 |lg w=>exact Fi
 |sp s=>exact FX
 |hop n o=>exact Fn
variable {r:Rw}
def Gq (z:Sep O H)(p:aw (yn R d r) O Δ):∃ dx fs,H d=some (wp (R.cad r.cl) dx fs):=by
 obtain⟨D,k,D1,D2,s1,s2,dj,h1,h2⟩:=z.pull p;obtain⟨dx,fs,e,_⟩:=xK r H D1 h1;exact⟨dx,fs,e⟩
def ug (wd:Wd):∃ f,tab.me.lookup (wd.cl,("words":Str))=some f/\(∀ R Ψ,dflt ⟨tab,R,Ψ,true⟩ f 1=[])/\∀ {R:Rt}{k:Nat}{v:V}{O:List ai}{H:Hp}{Q:VK}{E:XK},1<=k->Sep O H->(∀ p H',Sep (pt p (wl [v6 wd.s])::O) H'->Q (ut p) H')->ae tab R k f [v] H Q E:=by
 cases wd
 .exact⟨30,rfl,λ_ _=>rfl,λhk z q=>wc (d:=fQ) nofun rfl rfl (by left;exact cY z (by decide) q)⟩
 .exact⟨31,rfl,λ_ _=>rfl,λhk z q=>wc (d:=fS) nofun rfl rfl (by left;exact cY z (by decide) q)⟩
 .exact⟨32,rfl,λ_ _=>rfl,λhk z q=>wc (d:=fV) nofun rfl rfl (by left;exact cY z (by decide) q)⟩
 .exact⟨33,rfl,λ_ _=>rfl,λhk z q=>wc (d:=fe) nofun rfl rfl (by left;exact cY z (by decide) q)⟩
 .exact⟨34,rfl,λ_ _=>rfl,λhk z q=>wc (d:=eX) nofun rfl rfl (by left;exact cY z (by decide) q)⟩
 .exact⟨35,rfl,λ_ _=>rfl,λhk z q=>wc (d:=fW) nofun rfl rfl (by left;exact cY z (by decide) q)⟩
def mh (h0: -1000000000<=i)(h1:i<=1000000000)(q:Q (v6 (toString i)) H):gP G .str [v0 i] H Q:=by
 unfold gP;refine .inl ⟨i,rfl,?_,q⟩;rcases Nat.eq_zero_or_pos i.natAbs with e|e
 .rw[e];decide
 .exact ol ((Nat.log2_lt nofun).mpr (show i.natAbs<2 ^ 30 by omega)) (by decide)
def yC (q:Q (v6 z) H):gP G .str [v6 z] H Q:=by unfold gP;exact .inr ⟨z,rfl,q⟩
abbrev Sp.ws:Sp->List Str
 | .set b i=>["set",b.nm,toString i]
 | .add b i=>["add",b.nm,toString i]
 | .take b c=>["take",b.nm,c.nm]
 | .read b=>["read",b.nm]
 | .write b=>["write",b.nm]
def wo {f:Nat}(hk:1<=k)(ok:sp.ok)(hf:tab.me.lookup (sp.cl,("words":Str))=some f) (z:Sep O H) (p:aw (sd R d sp) O Δ) (q:∀ p H',Sep (pt p (wl (sp.ws.map v6))::O) H'->Q (ut p) H'):ae tab R k f [ut d] H Q E:=by
 obtain⟨dx,e⟩:=Ff z p;cases sp with
 |set n i=>
  have hf:some 11=some f:=hf;cases hf;delta iz;right;refine aj e rfl rfl rfl ?_;right;refine aj e rfl rfl rfl ?_;left;refine mh ok.1 ok.2 ?_;right;rename_i p H1 z1;exact q p H1 z1
 |add n i=>
  have hf:some 13=some f:=hf;cases hf;delta iZ;right;refine aj e rfl rfl rfl ?_;right;refine aj e rfl rfl rfl ?_;left;refine mh ok.1 ok.2 ?_;right;rename_i p H1 z1;exact q p H1 z1
 |take n m=>
  have hf:some 15=some f:=hf;cases hf;delta fX;right;refine aj e rfl rfl rfl ?_;right;refine aj e rfl rfl rfl ?_;right;rename_i p H1 z1;exact q p H1 z1
 |read n=>
  have hf:some 17=some f:=hf;cases hf;delta f7;right;refine aj e rfl rfl rfl ?_;right;rename_i p H1 z1;exact q p H1 z1
 |write n=>
  have hf:some 19=some f:=hf;cases hf;delta eU;right;refine aj e rfl rfl rfl ?_;right;rename_i p H1 z1;exact q p H1 z1
abbrev xZ (n:Int)(o:Option Int):List V:=match o with
 |none=>[v6 "hop",v6 (toString n)]
 |some i=>[v6 "hop",v6 (toString n),v6 "if",v6 (toString i)]
def sA (h:i.natAbs<=1000)(q:Q (v6 (toString i)) H):gP G .str [v0 i] H Q:=by
 unfold gP;exact .inl ⟨i,rfl,Nat.lt_of_le_of_lt (Nat.log2_le_self _) nofun,q⟩
def yg {n:Int}(hk:1<=k)(h0:0<=n)(h1:n<=24)(ho:CJ o)(z:Sep O H)(p:aw (EK R d n o) O Δ)(q:∀ l H',Sep (pt l (wl (xZ n o))::O) H'->Q (ut l) H'):ae tab R k 23 [ut d] H Q E:=by
 delta iS;obtain⟨dx,e⟩:=BY z p;right;refine aj e rfl rfl rfl ?_;left;refine sA nofun ?_;right;rename_i l H1 z1;obtain⟨dx,e⟩:=BY z1 (.t p);refine aj e rfl rfl rfl ?_;right;refine aS ?_;cases o with
 |none=>
  left;refine aD (by decide) ?_;right;exact q l H1 z1
 |some i=>
  left;refine aG rfl ?_;right;refine⟨l,_,rfl,z1.at,?_⟩;right;refine aj e rfl rfl rfl ?_;left;refine sA (by rcases ho with rfl|rfl<;>decide) ?_;right;rename_i l2 H2 z2;refine⟨_,z2.drop.at,?_⟩;unfold yp;refine⟨l2,_,rfl,z2.at,pc rfl,?_⟩;right;exact q l _ ((z2.pull .k1).set (o':=wl (xZ n (some i))) rfl |>.sub (.cons .e (.drop .refl)))
def ah {A:ai}:∀ {L O Δ:List ai},aw A O Δ->aw A (L++O) (L++Δ)
 | [],_,_,h=>h
 |B::L,_,_,h=>.t (ah h)
abbrev Rw.wd:Rw->List V
 | .lg w=>[v6 w.s]
 | .sp s=>s.ws.map v6
 | .hop n o=>xZ n o
def uq {n:Int}:∀ y ∈ xZ n o,∃ t,tyName y H=some t:=by
 intro y hy;cases o<;>simp only[xZ,lw,not_mem_nil,or_false]at hy
 .rcases hy with rfl|rfl<;>exact⟨"str",rfl⟩
 .rcases hy with rfl|rfl|rfl|rfl<;>exact⟨"str",rfl⟩
def Rw.zh (r:Rw):∀ y ∈ r.wd,∃ t,tyName y H=some t:=by
 cases r with
 |lg w=>intro y hy;rw[mem_singleton.mp hy];exact⟨"str",rfl⟩
 |sp s=>
  intro y hy;obtain⟨w,_,rfl⟩:=List.mem_map.mp hy;exact⟨"str",rfl⟩
 |hop n o=>exact uq
def nO (r:Rw)(ok:r.ok):∃ f,tab.me.lookup (r.cl,("words":Str))=some f/\(∀ Ψ,dflt ⟨tab,R,Ψ,true⟩ f 1=[])/\∀ {k:Nat}{de:Addr}{O Δ:List ai}{H:Hp}{Q:VK}{E:XK},1<=k->Sep O H->aw (yn R de r) O Δ->(∀ p H',Sep (pt p (wl r.wd)::O) H'->Q (ut p) H')->ae tab R k f [ut de] H Q E:=by
 cases r with
 |lg w=>
  obtain⟨f,h1,h2,h3⟩:=ug w;exact⟨f,h1,h2 R,λhk z p q=>h3 hk z q⟩
 |sp s=>
  obtain⟨f,hf⟩:∃ f,tab.me.lookup (s.cl,("words":Str))=some f:=by cases s<;>exact⟨_,rfl⟩
  exact⟨f,hf,λΨ=>by cases s<;>cases hf<;>rfl,λhk z p q=>wo hk ok hf z p q⟩
 |hop n o=>exact⟨23,rfl,λ_=>rfl,λhk z p q=>yg hk ok.1.1 ok.1.2 ok.2 z p q⟩
def Sep.mv:∀ {L P Δ O:List ai}{H:Hp},Sep (P++(Δ++(L++O))) H->Sep (P++(L++(Δ++O))) H
 | [],_,_,_,_,z=>z
 |A::L,P,Δ,O,H,z=>(Sep.mv (L:=L) (P:=A::P) (Δ:=Δ) (O:=O) (z.pull (ah (ah .e)))).push (ah .e)
inductive Itm where
 |row (r:Rw)|dO (w:Str)|tms (n:Int) (b:List Itm)|whn (o:Int) (b c:List Itm)
abbrev Hu (ns:List Str):Nat->Itm->Prop
 |_,.row r=>r.ok
 |_,.dO w=>w ∈ ns
 |n+1,.tms m b=>(0<=m/\m<=9)/\b.length<=30/\∀ i ∈ b,Hu ns n i
 |n+1,.whn o b c=>(o=0\/o=1)/\(b.length<=30/\∀ i ∈ b,Hu ns n i)/\c.length<=30/\∀ i ∈ c,Hu ns n i
 |0,.tms _ _=>False
 |0,.whn _ _ _=>False
abbrev d8 (P:V->α->Prop)(vs:List V)(b:List α):Prop:=vs.length=b.length/\∀ (j:Nat) v i,vs[j]? =some v->b[j]? =some i->P v i
def d8.map {P P':V->α->Prop}{b:List α}(h:d8 P vs b)(f:∀ v i,P v i->P' v i):d8 P' vs b:=⟨h.1,λj v i h1 h2=>f v i (h.2 j v i h1 h2)⟩
def d8.nil {P:V->α->Prop}:d8 P [] []:=⟨rfl,λj v i h _=>nomatch h⟩
def d8.snoc {P:V->α->Prop}{b:List α}{i:α}(h:d8 P vs b)(p:P v i):d8 P (vs++[v]) (b++[i]):=by
 refine⟨by rw[db,db,h.1];rfl,λj x y h1 h2=>?_⟩;rcases Nat.lt_trichotomy j vs.length with hj|hj|hj
 .rw[getElem?_append_left hj]at h1;rw[getElem?_append_left (h.1▸hj)]at h2;exact h.2 j x y h1 h2
 .subst hj;rw[getElem?_append_right (re _),Nat.sub_self]at h1;rw[getElem?_append_right (Nat.le_of_eq h.1.symm),h.1,Nat.sub_self]at h2;cases h1;cases h2;exact p
 .rw[getElem?_eq_none (by rw[db];simp;omega)]at h1;cases h1
def d8.get {P:V->α->Prop}{b:List α}{j:Nat}(h:d8 P vs b)(e:vs[j]? =some v):∃ i,b[j]? =some i/\P v i:=by
 have hj:=(sK.mp e).1;have e2:b[j]? =some (b[j]'(by rw[<-h.1];exact hj)):=li _;exact⟨_,e2,h.2 j v _ e e2⟩
abbrev j8 (R:Rt)(F:List ai):Nat->V->Itm->Prop
 |_,v,.row r=>∃ d,v=ut d/\yn R d r ∈ F
 |_,v,.dO w=>∃ d dx,v=ut d/\pt d (wp (R.cad 13) dx [("called",v6 w)]) ∈ F
 |n+1,v,.tms m b=>∃ d dx l vs,v=ut d/\pt d (wp (R.cad 14) dx [("many",v0 m),("block",ut l)]) ∈ F/\pt l (wl vs) ∈ F/\d8 (j8 R F n) vs b
 |n+1,v,.whn o b c=>∃ d dx l vs l' vs',v=ut d/\pt d (wp (R.cad 15) dx [("on",v0 o),("block",ut l),("other",ut l')]) ∈ F/\(pt l (wl vs) ∈ F/\d8 (j8 R F n) vs b)/\pt l' (wl vs') ∈ F/\d8 (j8 R F n) vs' c
 |0,_,.tms _ _=>False
 |0,_,.whn _ _ _=>False
def j8.mono {F F':List ai}(h:∀ A ∈ F,A ∈ F'):∀ {n:Nat}{v:V}{i:Itm},j8 R F n v i->j8 R F' n v i:=by
 intro n
 induction n with
 |zero=>
  intro v i;cases i with
  |row r=>exact λ⟨t,e,m⟩=>⟨t,e,h _ m⟩
  |dO w=>exact λ⟨t,x,e,m⟩=>⟨t,x,e,h _ m⟩
  |tms m b=>exact λz=>z
  |whn o b c=>exact λz=>z
 |succ n ih=>
  intro v i;cases i with
  |row r=>exact λ⟨t,e,m⟩=>⟨t,e,h _ m⟩
  |dO w=>exact λ⟨t,x,e,m⟩=>⟨t,x,e,h _ m⟩
  |tms m b=>exact λ⟨t,x,l,vs,e,m1,m2,a⟩=>⟨t,x,l,vs,e,h _ m1,h _ m2,a.map λv i=>ih⟩
  |whn o b c=>exact λ⟨t,x,l,vs,l',vs',e,m1,⟨m2,a⟩,m3,a'⟩=>⟨t,x,l,vs,l',vs',e,h _ m1,⟨h _ m2,a.map λv i=>ih⟩,h _ m3,a'.map λv i=>ih⟩
def aI {A:ai}:∀ {F:List ai},A ∈ F->∃ Δ,aw A F Δ
 |B::F,h=>by
  rcases lw.mp h with rfl|h
  .exact⟨F,.e⟩
  .obtain⟨Δ,p⟩:=aI h;exact⟨B::Δ,.t p⟩
def fz {o:HO}{G F:List ai}(h:pt a o ∈ F)(z:Sep (G++F) H):H a=some o:=let⟨_,p⟩:=aI h;z.get (ah p)
def fj {t:Addr}{G F:List ai}(h:tu t xs ∈ F)(z:Sep (G++F) H):H t=some (wn xs):=let⟨_,p⟩:=aI h;z.GN (ah p)
abbrev az (ws:List Str):Nat:=(ws.map λw=>w.length+1).sum
def aa {w:Str}{ws:List Str}:az (w::ws)=w.length+1+az ws:=by unfold az;rw[map_cons,sum_cons]
def au {ws vs:List Str}:az (ws++vs)=az ws+az vs:=by unfold az;rw[ge,List.sum_append]
def zX {ws vs:List Str}(h:List.Sublist ws vs):az ws<=az vs:=by
 induction h with
 |slnil=>exact re _
 |cons a _ ih=>rw[aa];omega
 |cons_cons a _ ih=>rw[aa,aa];omega
def my (ws:List Str):ws.length<=az ws:=by
 induction ws with
 |nil=>exact re _
 |cons a r ih=>rw[aa,length_cons];omega
def mn {w:Str}{ws:List Str}(h:w ∈ ws):w.length+1<=az ws:=by
 have:=zX (List.singleton_sublist.mpr h);rw[aa]at this
 omega
def sF {ws:List Str}{i:Nat}{v:Str}:az (ws.set i v)<=az ws+v.length+1:=by
 induction ws generalizing i with
 |nil=>rw[List.set_nil];omega
 |cons a r ih=>
  cases i with
  |zero=>rw[List.set_cons_zero,aa,aa];omega
  |succ i=>have:=ih (i:=i);rw[List.set_cons_succ,aa,aa];omega
def gi:∀ {ws:List Str},ws≠[]->(Str.join bM ws).length+1=az ws
 | [],h=>absurd rfl h
 | [x],_=>by rw[aa];rfl
 |x::y::r,_=>by
  have ih:=gi (ws:=y::r) (λh=>nomatch h);rw[bX]at ih⊢;rw[join_cons,db,db,aa,<-ih,bX x,show bM.cps.toList.length=1 from rfl]
  omega
def d9 (z:Str):az (Txt.split z bM)=z.length+1:=by
 rw[<-gi (show Txt.split z bM≠[] from nS z 32),show Str.join bM (Txt.split z bM)=z from StrLaws.join_split z bM]
def kz (ws:List Str):(Txt.join bM ws).length<=az ws:=by
 have e:Txt.join bM ws=Str.join bM ws:=StrLaws.glued_eq_join _ _;rw[e];cases ws with
 |nil=>exact re 0
 |cons a r=>have:=gi (ws:=a::r) (λh=>nomatch h);omega
def gq (ws:List Str):(ws.map (·.length)).sum+ws.length=az ws:=by
 induction ws with
 |nil=>rfl
 |cons a r ih=>rw[aa,<-ih,map_cons,sum_cons,length_cons];omega
def FC {ws:List Str}(e:H a=some (wl (ws.map v6)))(hw:az ws<=1000000)(q:∀ z:Str,z.length<=az ws->Q (v6 z) H):x6 G.R.K .join bM (ut a) H Q:=
 eK (G:=G) e (by rw[gq];exact hw) (by decide+kernel) (q _ (kz ws))
abbrev Fs:j7->j7
 | .cons (.for _ _ b) _=>b
 |_=>.nil
def BP {b:Addr}{zs:List V}(s:Sep O H)(r:dg (pt a (wl xs)) (pt a (wl (xs++zs))) O Γ')(e:H b=some (wl zs))(hl:xs.length+zs.length<=10000)(h:∀ H',Sep Γ' H'->Q wf H'):yp .extend a xs [ut b] H Q:=by unfold yp;exact⟨_,_,rfl,e,hl,h _ (s.put r rfl)⟩
def jb (h:i.natAbs<=1000000000)(q:Q (v6 (nw i)) H):gP G .str [v0 i] H Q:=by
 unfold gP;refine .inl ⟨i,rfl,?_,q⟩
 by_cases e:i.natAbs=0
 .rw[e];decide
 .rw[Nat.log2_lt e];exact Nat.lt_of_le_of_lt h (by decide)
noncomputable abbrev ij:Str:="("
noncomputable abbrev cD:Str:=")"
noncomputable abbrev cR:Str:=";"
noncomputable abbrev sY:Str:="else"
noncomputable abbrev zN:Str:="times"
noncomputable abbrev pT:Str:="when"
noncomputable abbrev uS:Str:="do"
abbrev Rw.zs:Rw->List Str
 | .lg w=>[w.s]
 | .sp s=>s.ws
 | .hop n none=>["hop",nw n]
 | .hop n (some i)=>["hop",nw n,"if",nw i]
def Rw.wN (r:Rw):r.wd=r.zs.map v6:=by
 cases r with
 |lg w=>rfl
 |sp s=>rfl
 |hop n o=>cases o<;>rfl
abbrev aL:List (List Str)->List Str
 | []=>[]
 |x::r=>x++(r.map λy=>cR::y).flatten
def et:aL (l++[y])=aL l++(if l.length=0 then y else cR::y):=by
 cases l with
 |nil=>show y++_=[]++y;simp
 |cons x r=>
  show x++((r++[y]).map λy=>cR::y).flatten=(x++(r.map λy=>cR::y).flatten)++(cR::y);simp
def xj:∀ {x:List Str},x ∈ l->x.length<=(aL l).length:=by
 cases l with
 |nil=>intro x h;cases h
 |cons a r=>
  intro x h;show x.length<=(a++(r.map λy=>cR::y).flatten).length;rw[db];rcases lw.mp h with rfl|h
  .omega
  .have:∀ (r:List (List Str)),x ∈ r->x.length<=((r.map λy=>cR::y).flatten).length:=λr=>by
    induction r with
    |nil=>intro h;cases h
    |cons b s ih=>
     intro h;rw[map_cons,flatten_cons,db,length_cons];rcases lw.mp h with rfl|h
     .omega
     .have:=ih h;omega
   have:=this r h
   omega
def vD:∀ {x:List Str},x ∈ l->az x<=az (aL l):=by
 cases l with
 |nil=>intro x h;cases h
 |cons a r=>
  intro x h;show az x<=az (a++(r.map λy=>cR::y).flatten);rw[au];rcases lw.mp h with rfl|h
  .omega
  .have:∀ (r:List (List Str)),x ∈ r->az x<=az ((r.map λy=>cR::y).flatten):=λr=>by
    induction r with
    |nil=>intro h;cases h
    |cons b s ih=>
     intro h;rw[map_cons,flatten_cons,au,aa];rcases lw.mp h with rfl|h
     .omega
     .have:=ih h;omega
   have:=this r h
   omega
abbrev tS (l:List (List Str)):List Str:=ij::(aL l++[cD])
abbrev kF (c:List (List Str)):List Str:=if c.length=0 then[] else sY::tS c
abbrev aK:Nat->Itm->List Str
 |_,.row r=>r.zs
 |_,.dO w=>[uS,w]
 |n+1,.tms m b=>zN::nw m::tS (b.map (aK n))
 |n+1,.whn o b c=>pT::nw o::(tS (b.map (aK n))++kF (c.map (aK n)))
 |0,.tms _ _=>[]
 |0,.whn _ _ _=>[]
noncomputable abbrev dQ (n:Nat)(b:List Itm):List Str:=tS (b.map (aK n))
variable {b:List Itm}
def AM {i:Itm}(h:i ∈ b):(aK n i).length+2<=(dQ n b).length:=by
 have:=xj (l:=b.map (aK n)) (List.mem_map_of_mem h);show _<=(ij::(aL _++[cD])).length;rw[length_cons,db];simp
 omega
def yR {i:Itm}(h:i ∈ b):az (aK n i)+4<=az (dQ n b):=by
 have:=vD (l:=b.map (aK n)) (List.mem_map_of_mem h);show _<=az (ij::(aL _++[cD]));rw[aa,au,aa,show ij.length=1 by decide+kernel,show cD.length=1 by decide+kernel]
 omega
def mW:tS l≠[]:=cons_ne_nil _ _
def yt:(l.map az).sum<=az (aL l):=by
 cases l with
 |nil=>exact re _
 |cons a r=>
  show _<=az (a++(r.map λy=>cR::y).flatten);rw[au,map_cons,sum_cons];have:∀ r:List (List Str),(r.map az).sum<=az ((r.map λy=>cR::y).flatten):=λr=>by
   induction r with
   |nil=>exact re _
   |cons b s ih=>rw[map_cons,map_cons,sum_cons,flatten_cons,au,aa];omega
  have:=this r
  omega
def yG (r:Rw):tab.oc.contains r.cl=true/\tab.sub.lookup (r.cl,13)=some false/\tab.sub.lookup (r.cl,14)=some false/\tab.sub.lookup (r.cl,15)=some false:=by
 cases r with
 |lg w=>cases w<;>exact⟨rfl,rfl,rfl,rfl⟩
 |sp s=>cases s<;>exact⟨rfl,rfl,rfl,rfl⟩
 |hop n o=>exact⟨rfl,rfl,rfl,rfl⟩
def FI {G F:List ai}(h:yn R d r ∈ F)(z:Sep (G++F) H):∃ dx fs,H d=some (wp (R.cad r.cl) dx fs):=let⟨_,p⟩:=aI h;Gq z (ah p)
abbrev gb:Nat->Itm->Prop
 |_,.row r=>r.ok
 |_,.dO w=>Nm w
 |n+1,.tms m b=>(0<=m/\m<=9)/\b.length<=24/\∀ i ∈ b,gb n i
 |n+1,.whn o b c=>(o=0\/o=1)/\(b.length<=24/\∀ i ∈ b,gb n i)/\c.length<=24/\∀ i ∈ c,gb n i
 |0,.tms _ _=>False
 |0,.whn _ _ _=>False
noncomputable abbrev zZ (n:Nat)(b:List Itm):Prop:=b.length<=24/\∀ i ∈ b,gb n i
abbrev Dm (R:Rt)(n:Nat):Prop:=∀ {k:Nat}{F G Δ:List ai}{l:Addr}{vs:List V}{b:List Itm}{H:Hp}{Q:VK}{E:XK},3*n+3<=k->zZ n b->(dQ n b).length<=9000->aw (pt l (wl vs)) (G++F) Δ->d8 (j8 R F n) vs b->Sep (G++F) H->(∀ p H',Sep (pt p (wl ((dQ n b).map v6))::(G++F)) H'->Q (ut p) H')->ae tab R k 59 [ut l] H Q E
abbrev GP (R:Rt)(n:Nat):Prop:=∀ {k:Nat}{F G:List ai}{v:V}{i:Itm}{H:Hp}{Q:VK}{E:XK},3*n+2<=k->gb n i->(aK n i).length<=9000->j8 R F n v i->Sep (G++F) H->(∀ p H',Sep (pt p (wl ((aK n i).map v6))::(G++F)) H'->Q (ut p) H')->ae tab R k 58 [v] H Q E
section
variable {F G:List ai}{v:V}{n:Nat}
def oO (ro:Ro K R)(ih:∀ m,n=m+1->Dm R m):GP R n:=by
 intro k F G v i H Q E hk ok hl hi z q;delta gI;cases i with
 |row r=>
  obtain⟨d,rfl,m⟩:∃ d,v=ut d/\yn R d r ∈ F:=by cases n<;>exact hi
  have ok':r.ok:=by cases n<;>exact ok
  have q:∀ p H',Sep (pt p (wl (r.zs.map v6))::(G++F)) H'->Q (ut p) H':=by cases n<;>exact q
  obtain⟨x,fs,e⟩:=FI m z;obtain⟨o1,o2,o3,o4⟩:=yG r;obtain⟨fn,h1,h2,h3⟩:=nO (R:=R) r ok';obtain⟨Δ,pl⟩:=aI m;right;refine cJ e o1 o2 ?_;right;refine cJ e o1 o3 ?_;right;refine cJ e o1 o4 ?_;right;refine jf (xK r) z (ah pl) ?_ h1 ?_
  .cases r with
   |lg w=>rfl
   |sp s=>cases s<;>rfl
   |hop n o=>rfl
  left;refine g9 (vs':=[ut d]) (by show _::([]++dflt _ _ 1)=_;rw[h2];rfl) ?_;refine h3 nofun z (ah pl) (λp H7 z7=>?_);rw[Rw.wN]at z7;exact q p H7 z7
 |dO w=>
  obtain⟨d,x,rfl,m⟩:∃ d dx,v=ut d/\pt d (wp (R.cad 13) dx [("called",v6 w)]) ∈ F:=by cases n<;>exact hi
  have q:∀ p H',Sep (pt p (wl ([uS,w].map v6))::(G++F)) H'->Q (ut p) H':=by cases n<;>exact q
  have e:=fz m z;right;refine cJ e rfl rfl ?_;right;refine aj e rfl rfl rfl ?_;right;rename_i p H1 z1;exact q p H1 z1
 |tms m b=>
  cases n with
  |zero=>exact hi.elim
  |succ n=>
   obtain⟨d,x,l,vs,rfl,m1,m2,a⟩:=hi;obtain⟨Δ,pl⟩:=aI m2;have hl:(dQ n b).length+2<=9000:=hl;have e:=fz m1 z;have ok1:=ok.1;right;refine cJ e rfl rfl ?_;right;refine cJ e rfl rfl ?_;right;refine aj e rfl rfl rfl ?_;right;refine jb nofun ?_;right;rename_i p1 H1 z1;refine aj (fz (G:=_::G) m1 z1) rfl rfl rfl ?_;refine ih n rfl (G:=pt p1 _::G) nofun ok.2 nofun (.t (ah pl)) a z1 λp2 H2 z2=>?_
   right;refine di z2 (z2.get .k1) z2.at (by rw[cr];simp;omega) λp3 H3 z3=>?_
   exact q p3 H3 (z3.sub (.cons .e (.drop (.drop .refl))))
 |whn o b c=>
  cases n with
  |zero=>exact hi.elim
  |succ n=>
   obtain⟨d,x,l,vs,l',vs',rfl,m1,⟨m2,a⟩,m3,a'⟩:=hi;obtain⟨Δ,pl⟩:=aI m2;obtain⟨Δ',pl'⟩:=aI m3;have hl:((dQ n b)++kF (c.map (aK n))).length+2<=9000:=hl;rw[db]at hl;have e:=fz m1 z;have ok1:=ok.1;right;refine cJ e rfl rfl ?_;right;refine cJ e rfl rfl ?_;right;refine cJ e rfl rfl ?_;right;delta gd;right;refine aj e rfl rfl rfl ?_;right;refine jb nofun ?_;right;rename_i p1 H1 z1;refine aj (fz (G:=_::G) m1 z1) rfl rfl rfl ?_;refine ih n rfl (k:=k-1-1) (G:=pt p1 _::G) nofun ok.2.1 nofun (.t (ah pl)) a z1 λp2 H2 z2=>?_
   right;refine di z2 (z2.get .k1) z2.at (by rw[cr];simp;omega) λp3 H3 z3=>?_
   have z4:Sep (pt p3 (wl ((pT::nw o::dQ n b).map v6))::(G++F)) H3:=z3.sub (.cons .e (.drop (.drop .refl)));clear z1 z2 z3;right;refine aj (fz (G:=_::G) m1 z4) rfl rfl rfl ?_;right;refine c6 (fz (G:=_::G) m3 z4) ?_;right;have hc:c.length=vs'.length:=a'.1.symm
   by_cases g:c.length=0
   .have e0:kF (c.map (aK n))=[]:=by unfold kF;rw[cr,if_pos g]
    refine aD (decide_eq_false nofun) ?_;right;refine q p3 H3 ?_;show Sep (pt p3 (wl ((pT::nw o::(dQ n b++kF (c.map (aK n)))).map v6))::(G++F)) H3;rw[e0,append_nil];exact z4
   .have e0:kF (c.map (aK n))=sY::dQ n c:=by unfold kF;rw[cr,if_neg g]
    rw[e0]at hl;simp at hl;refine aG (decide_eq_true nofun) ?_;right;refine⟨_,_,rfl,z4.at,?_⟩;left;refine⟨_,z4.at,fZ z4 .e (by simp;omega) λH5 z5=>?_⟩;right;refine⟨_,_,rfl,z5.at,?_⟩;right;refine aj (fz (G:=_::G) m1 z5) rfl rfl rfl ?_;refine ih n rfl (k:=k-1-1) (G:=pt p3 _::G) nofun ok.2.2 nofun (.t (ah pl')) a' z5 λp6 H6 z6=>?_
    left;refine⟨_,z6.get .k1,BP z6 .k1 z6.at (by simp;omega) λH7 z7=>?_⟩;right;refine q p3 H7 ?_;show Sep (pt p3 (wl ((pT::nw o::(dQ n b++kF (c.map (aK n)))).map v6))::(G++F)) H7;rw[e0];have z8:=z7.drop;simp at z8⊢;exact z8
def ph (hi:GP R n):Dm R n:=by
 intro k F G Δ l vs b H Q E hk ok hl pl a z q;delta cB;right;rename_i p H1 z1;have hb:vs.length=b.length:=a.1;have hl30:=ok.1;refine FH (z1.get (.t pl)) ?_;refine yX (xs:=vs) (λj U H=>∃ u2 u3,U=[some (ut l),some (ut p),u2,u3]/\Sep (pt p (wl ((ij::aL ((b.take j).map (aK n))).map v6))::(G++F)) H) ⟨_,_,rfl,z1⟩ ?_ ?_ ?_
 .rintro j U H ⟨u2,u3,rfl,hs⟩;exact hs.get (.t pl)
 .rintro j x T U H hx ⟨u2,u3,rfl,hs⟩ hT;obtain⟨i,ei,hi2⟩:=a.get hx;have him:=dl ei;have hj:=(sK.mp ei).1;have hwl:=AM (n:=n) him;have z2:=hs.mG (xs:=[v0 j,x]) hT;left;refine⟨T,_,rfl,.inl (a5.of z2.atT),rfl,?_⟩;generalize upd H T _=H4 at z2⊢;have z3:=z2.drop;have tk:(b.take (j+1)).map (aK n)=(b.take j).map (aK n)++[aK n i]:=by rw[take_succ,ei,ge];rfl
  have tl:((b.take j).map (aK n)).length=j:=by rw[cr,dL];omega
  have pre:(aL ((b.take j).map (aK n))).length+(aK n i).length+3<=9003:=by
   have e1:b.map (aK n)=((b.take j).map (aK n)++[aK n i])++(b.drop (j+1)).map (aK n):=by rw[<-tk,<-ge,take_append_drop]
   have mono:∀ (l m:List (List Str)),(aL l).length<=(aL (l++m)).length:=λl m=>by
    cases l with
    |nil=>exact Nat.zero_le _
    |cons x r=>show(x++_).length<=(x++((r++m).map _).flatten).length;rw[ge,List.flatten_append,<-lf,db (as:=x++_)];omega
   have h1:=mono ((b.take j).map (aK n)++[aK n i]) ((b.drop (j+1)).map (aK n));rw[<-e1,et,db]at h1;have h2:(aL (b.map (aK n))).length+2=(dQ n b).length:=by show _=(ij::(aL _++[cD])).length;rw[length_cons,db];rfl
   have h3:(aK n i).length<=(if((b.take j).map (aK n)).length=0 then aK n i else cR::aK n i).length:=by split<;>simp
   omega
  have last:∀ {H:Hp}{pre2:List Str},pre2.length<=9100-(aK n i).length->(aK n i).length<=9000->aL ((b.take (j+1)).map (aK n))=pre2++aK n i->Sep (pt p (wl ((ij::pre2).map v6))::(G++F)) H->wB (fM 1 (Fs (fM 1 cB.body))) ⟨tab,R,ae tab R (k-1),true⟩ (xf { nx:=λσ' H'=>True,rt:=Q } λU H=>∃ u2 u3,U=[some (ut l),some (ut p),u2,u3]/\Sep (pt p (wl ((ij::aL ((b.take (j+1)).map (aK n))).map v6))::(G++F)) H) (λ_=>E) [some (ut l),some (ut p),some (v0 j),some x] H:=by
   intro H pre2 h1 h2 h3 z;right;refine⟨_,_,rfl,z.at,?_⟩;right;refine hi (k:=k-1) (G:=pt p _::G) nofun (ok.2 i him) nofun hi2 z λp2 H2 z4=>?_
   left;refine⟨_,z4.get .k1,BP z4 .k1 z4.at (by simp;omega) λH7 z7=>?_⟩;right;refine⟨_,_,rfl,?_⟩;rw[h3];have z8:=z7.drop;simp at z8⊢;exact z8
  have sn:aL ((b.take (j+1)).map (aK n))=aL ((b.take j).map (aK n))++(if j=0 then aK n i else cR::aK n i):=by rw[tk,et,tl]
  left
  by_cases g:j=0
  .refine aD (decide_eq_false nofun) ?_;refine last (pre2:=aL ((b.take j).map (aK n))) nofun nofun (by rw[sn,if_pos g]) z3
  .refine aG (decide_eq_true nofun) ?_;right;refine⟨_,_,rfl,z3.at,?_⟩;left;refine⟨_,z3.at,fZ z3 .e (by rw[cr,length_cons];omega) λH5 z5=>?_⟩;refine last (pre2:=aL ((b.take j).map (aK n))++[cR]) (by rw[db,gt];omega) nofun (by rw[sn,if_neg g,lf];rfl) ?_;simp at z5⊢;exact z5
 .rintro U H ⟨u2,u3,rfl,hs⟩;rw[hb,take_of_length_le (re _)]at hs;right;refine⟨_,_,rfl,hs.at,?_⟩;left;refine⟨_,hs.at,fZ hs .e ?_ λH7 z7=>?_⟩
  .have h2:(aL (b.map (aK n))).length+2=(dQ n b).length:=by show _=(ij::(aL _++[cD])).length;rw[length_cons,db];rfl
   rw[cr,length_cons]
   omega
  right;refine q p H7 ?_;show Sep (pt p (wl ((ij::(aL (b.map (aK n))++[cD])).map v6))::(G++F)) H7;simp at z7⊢;exact z7
def GK (ro:Ro K R):∀ n,Dm R n
 |0=>ph (oO ro λm e=>absurd e nofun)
 |n+1=>ph (oO ro λm e=>by cases e;exact GK ro n)
end
inductive Rd (α:Type) where
 |ok (x:α) (n:Nat)|no (n:Nat)
abbrev yo (lo hi i:Int):Bool:=decide (lo<=i)&&decide (i<=hi)
abbrev aR (ws:List Str)(n:Nat)(lo hi:Int):Option Int:=match numAt ws n with
 |some i=>if yo lo hi i then some i else none
 |none=>none
abbrev kc (w:Str):Option Bn:=if w="here" then some .h else if w="there" then some .t else if w="left" then some .l else if w="way" then some .w else if w="sign" then some .s else if w="met" then some .m else none
abbrev bE (ws:List Str)(n:Nat):Option Bn:=match ws[n]? with
 |some w=>kc w
 |none=>none
abbrev oa (f:Bn->Int->Sp)(ws:List Str)(n:Nat):Rd Rw:=match bE ws n with
 |none=>.no n
 |some b=>match aR ws (n+1) (-1000000000) 1000000000 with
  |none=>.no (n+1)
  |some i=>.ok (.sp (f b i)) (n+2)
abbrev uu (ws:List Str)(n:Nat):Rd Rw:=match bE ws n with
 |none=>.no n
 |some b=>match bE ws (n+1) with
  |none=>.no (n+1)
  |some c=>.ok (.sp (.take b c)) (n+2)
abbrev nM (f:Bn->Sp)(ws:List Str)(n:Nat):Rd Rw:=match bE ws n with
 |none=>.no n
 |some b=>.ok (.sp (f b)) (n+1)
abbrev iV (ws:List Str)(n:Nat):Rd Rw:=match aR ws n 0 24 with
 |none=>.no n
 |some i=>if isAt ws (n+1) "if" then(match aR ws (n+2) 0 1 with
   |none=>.no (n+2)
   |some o=>.ok (.hop i (some o)) (n+3)) else .ok (.hop i none) (n+1)
abbrev uh (ws:List Str)(n:Nat):Rd Rw:=
 if isAt ws n "copy" then .ok (.lg .copy) (n+1) else if isAt ws n "fill" then .ok (.lg .fill) (n+1) else if isAt ws n "seek" then .ok (.lg .seek) (n+1) else
 if isAt ws n "match" then .ok (.lg .mtch) (n+1) else if isAt ws n "shift" then .ok (.lg .shift) (n+1) else if isAt ws n "turn" then .ok (.lg .turn) (n+1) else .no n
abbrev og (ws:List Str)(n:Nat):Rd Rw:=
 if isAt ws n "set" then oa .set ws (n+1) else if isAt ws n "add" then oa .add ws (n+1) else if isAt ws n "take" then uu ws (n+1) else
 if isAt ws n "read" then nM .read ws (n+1) else if isAt ws n "write" then nM .write ws (n+1) else if isAt ws n "hop" then iV ws (n+1) else uh ws n
section
variable {a dx qa:Addr}{n:Nat}{ws:List Str}{w:Str}
def av (h:aR ws n lo hi=some i):lo<=i/\i<=hi/\numAt ws n=some i:=by
 unfold aR at h;cases e:numAt ws n with
 |none=>rw[e]at h;cases h
 |some j=>
  rw[e]at h;have h:(if yo lo hi j then some j else none)=some i:=h
  by_cases g:yo lo hi j=true
  .rw[if_pos g]at h;cases h;unfold yo at g;simp only[mo,decide_eq_true_eq]at g;exact⟨g.1,g.2,rfl⟩
  .rw[if_neg g]at h;cases h
def A9 (e:numAt ws n=some i)(h1:lo<=i)(h2:i<=hi):aR ws n lo hi=some i:=by
 unfold aR;rw[e];show(if yo lo hi i then some i else none)=some i;rw[if_pos (by unfold yo;rw[decide_eq_true h1,decide_eq_true h2];rfl)]
def Ac (h:∀ i,numAt ws n=some i->¬ (lo<=i/\i<=hi)):aR ws n lo hi=none:=by
 cases e:aR ws n lo hi with
 |none=>rfl
 |some i=>
  obtain⟨h1,h2,h3⟩:=av e;exact absurd ⟨h1,h2⟩ (h i h3)
def bq (ro:Ro K R)(hk:3<=k)(hs:∀ w ∈ ws,w.length<=100000) (z:Sep (pt a (bI R dx qa n)::pt qa (bP ws)::O) H)
  (q:∀ i H',aR ws n lo hi=some i->Sep (pt a (bI R dx qa (n+1))::pt qa (bP ws)::O) H'->Q (v0 i) H')
  (r:aR ws n lo hi=none->∀ e H',Sep (lZ (R.cad 4) [("at",v0 (n:Int))] e false::O) H'->E e H'):ae tab R k 46 [ut a,v0 lo,v0 hi] H Q E:=
 pO ro hk hs z (λi H' e h1 h2 z'=>q i H' (A9 e h1 h2) z') λh=>r (Ac h)
def lV {b:Bn}(h:kc w=some b):w=b.nm:=by
 unfold kc at h
 repeat(split at h;(rename_i e;cases h;exact e))
 cases h
def pV:ie (v6 w)=(kc w).isSome:=by
 cases e:kc w with
 |some b=>rw[lV e];exact wJ b.at
 |none=>
  show uM (v6 w) (Dq.map v6)=false;have h:w≠"here"/\w≠"there"/\w≠"left"/\w≠"way"/\w≠"sign"/\w≠"met":=by
   unfold kc at e;refine⟨?_,?_,?_,?_,?_,?_⟩<;>rintro rfl<;>revert e<;>decide+kernel
  obtain⟨h1,h2,h3,h4,h5,h6⟩:=h;simp[uM,Dq,gL,h1,h2,h3,h4,h5,h6,Ne.symm h1,Ne.symm h2,Ne.symm h3,Ne.symm h4,Ne.symm h5,Ne.symm h6]
def bg (ro:Ro K R)(hk:3<=k)(z:Sep (pt a (bI R dx qa n)::pt qa (bP ws)::O) H)
  (q:∀ b H',bE ws n=some b->Sep (pt a (bI R dx qa (n+1))::pt qa (bP ws)::O) H'->Q (v6 b.nm) H')
  (r:bE ws n=none->∀ e H',Sep (lZ (R.cad 4) [("at",v0 (n:Int))] e false::O) H'->E e H'):ae tab R k 45 [ut a] H Q E:=by
 refine tG ro hk z (λw H' e hb z'=>?_) λh=>r ?_
 .rw[pV]at hb;obtain⟨b,eb⟩:=Option.isSome_iff_exists.mp hb;rw[lV eb];exact q b H' (by unfold bE;rw[e];exact eb) z'
 .unfold bE;cases e:ws[n]? with
  |none=>rfl
  |some w=>
   rw[e]at h;have h:ie (v6 w)=false:=h;rw[pV]at h;exact Option.not_isSome_iff_eq_none.mp (by rw[h];exact Bool.false_ne_true)
end
abbrev F4 (R:Rt)(a dx qa:Addr)(ws:List Str)(O:List ai)(Q:VK)(E:XK):Rd Rw->Prop
 | .ok r m=>∀ d H',r.ok->Sep (yn R d r::pt a (bI R dx qa m)::pt qa (bP ws)::O) H'->Q (ut d) H'
 | .no m=>∀ e H',Sep (lZ (R.cad 4) [("at",v0 (m:Int))] e false::O) H'->E e H'
section
variable {a dx qa:Addr}{n:Nat}{ws:List Str}{w:Str}
def qd (ro:Ro K R)(hk:4<=k)(z:Sep (pt a (bI R dx qa n)::pt qa (bP ws)::O) H)(q:F4 R a dx qa ws O Q E (uh ws n)):ae tab R k 49 [ut a] H Q E:=by
 delta cI;unfold uh at q;have mk:∀ {wd:Wd}{H:Hp},F4 R a dx qa ws O Q E (.ok (.lg wd) (n+1))->Sep (pt a (bI R dx qa (n+1))::pt qa (bP ws)::O) H->t6 (R.cad wd.cl) H Q:=λ{wd H} q z=>H0 z λx dx' H1 z1=>q x H1 trivial (Ia z1)
 right;refine⟨_,22,_,_,_,rfl,z.at,rfl,rfl,?_⟩;right;refine aH nofun z (λH1 e1 z1=>?_) (λe1=>?_)
 .rw[if_pos e1]at q;right;exact mk q z1
 rw[if_neg (by rw[e1];exact Bool.false_ne_true)]at q;right;refine⟨_,22,_,_,_,rfl,z.at,rfl,rfl,?_⟩;right;refine aH nofun z (λH1 e1 z1=>?_) (λe1=>?_)
 .rw[if_pos e1]at q;right;exact mk q z1
 rw[if_neg (by rw[e1];exact Bool.false_ne_true)]at q;right;refine⟨_,22,_,_,_,rfl,z.at,rfl,rfl,?_⟩;right;refine aH nofun z (λH1 e1 z1=>?_) (λe1=>?_)
 .rw[if_pos e1]at q;right;exact mk q z1
 rw[if_neg (by rw[e1];exact Bool.false_ne_true)]at q;right;refine⟨_,22,_,_,_,rfl,z.at,rfl,rfl,?_⟩;right;refine aH nofun z (λH1 e1 z1=>?_) (λe1=>?_)
 .rw[if_pos e1]at q;right;exact mk q z1
 rw[if_neg (by rw[e1];exact Bool.false_ne_true)]at q;right;refine⟨_,22,_,_,_,rfl,z.at,rfl,rfl,?_⟩;right;refine aH nofun z (λH1 e1 z1=>?_) (λe1=>?_)
 .rw[if_pos e1]at q;right;exact mk q z1
 rw[if_neg (by rw[e1];exact Bool.false_ne_true)]at q;right;refine⟨_,22,_,_,_,rfl,z.at,rfl,rfl,?_⟩;right;refine fD nofun z (λH1 e1 z1=>?_) (λe1=>?_)
 .rw[if_pos e1]at q;right;exact mk q z1
 .rw[if_neg (by rw[e1];exact Bool.false_ne_true)]at q;exact q
def tw (ro:Ro K R)(hk:6<=k)(hs:∀ w ∈ ws,w.length<=100000) (z:Sep (pt a (bI R dx qa n)::pt qa (bP ws)::O) H) (q:F4 R a dx qa ws O Q E (iV ws n)):ae tab R k 50 [ut a] H Q E:=by
 delta jT;unfold iV at q;right;refine⟨_,22,_,_,_,rfl,z.at,rfl,rfl,?_⟩;right;simp only[ro.g_MOST_HOPPED];right;refine bq (k:=k-1) ro nofun hs z (λi H1 e1 z1=>?_) (λe1 e H' z'=>by rw[e1]at q;exact q e H' z');rw[e1]at q;obtain⟨i0,i1,_⟩:=av e1;have q:F4 R a dx qa ws O Q E (if isAt ws (n+1) "if" then(match aR ws (n+2) 0 1 with|none=>.no (n+2)|some o=>.ok (.hop i (some o)) (n+3)) else .ok (.hop i none) (n+1)):=q;right;refine⟨_,22,_,_,_,rfl,z1.at,rfl,rfl,?_⟩;right;refine aH nofun z1 (λH2 e2 z2=>?_) (λe2=>?_)
 .rw[if_pos e2]at q;right;refine⟨_,22,_,_,_,rfl,z2.at,rfl,rfl,?_⟩;right;refine bq (k:=k-1) ro nofun hs z2 (λo H3 e3 z3=>?_) (λe3 e H' z'=>by rw[e3]at q;exact q e H' z');rw[e3]at q;obtain⟨o0,o1,_⟩:=av e3;have ho:CJ (some o):=by show o=0\/o=1;omega
  right;intro x dx' h1 h2 h3;refine BS (o:=some o) ro nofun i0 i1 ho (gm z3 h1 h2 h3) λH4 z4=>⟨rfl,?_⟩
  exact q x H4 ⟨⟨i0,i1⟩,ho⟩ z4
 .rw[if_neg (by rw[e2];exact Bool.false_ne_true)]at q;right;intro x dx' h1 h2 h3;refine BS (o:=none) ro nofun i0 i1 trivial (gm z1 h1 h2 h3) λH4 z4=>⟨rfl,?_⟩
  exact q x H4 ⟨⟨i0,i1⟩,trivial⟩ z4
def qF (ro:Ro K R)(hk:7<=k)(hs:∀ w ∈ ws,w.length<=100000) (z:Sep (pt a (bI R dx qa n)::pt qa (bP ws)::O) H) (q:F4 R a dx qa ws O Q E (og ws n)):ae tab R k 51 [ut a] H Q E:=by
 delta iK;unfold og at q;right;refine⟨_,22,_,_,_,rfl,z.at,rfl,rfl,?_⟩;right;refine aH nofun z (λH1 e1 z1=>?_) (λe1=>?_)
 .rw[if_pos e1]at q;unfold oa at q;right;refine⟨_,22,_,_,_,rfl,z1.at,rfl,rfl,?_⟩;right;refine bg (k:=k-1) ro nofun z1 (λb H2 e2 z2=>?_) (λe2 e H' z'=>by rw[e2]at q;exact q e H' z');rw[e2]at q;right;refine⟨_,22,_,_,_,rfl,z2.at,rfl,rfl,?_⟩;right;simp only[ro.g_BOUND];right;simp only[ro.g_BOUND];right;refine bq (k:=k-1) ro nofun hs z2 (λi H3 e3 z3=>?_) (λe3 e H' z'=>by rw[e3]at q;exact q e H' z');rw[e3]at q;obtain⟨i0,i1,_⟩:=av e3;right;intro x dx' h1 h2 h3;refine GY (k:=k-1) ro nofun i0 i1 (gm z3 h1 h2 h3) λH4 z4=>⟨rfl,?_⟩
  exact q x H4 ⟨i0,i1⟩ z4
 rw[if_neg (by rw[e1];exact Bool.false_ne_true)]at q;right;refine⟨_,22,_,_,_,rfl,z.at,rfl,rfl,?_⟩;right;refine aH nofun z (λH1 e1 z1=>?_) (λe1=>?_)
 .rw[if_pos e1]at q;unfold oa at q;right;refine⟨_,22,_,_,_,rfl,z1.at,rfl,rfl,?_⟩;right;refine bg (k:=k-1) ro nofun z1 (λb H2 e2 z2=>?_) (λe2 e H' z'=>by rw[e2]at q;exact q e H' z');rw[e2]at q;right;refine⟨_,22,_,_,_,rfl,z2.at,rfl,rfl,?_⟩;right;simp only[ro.g_BOUND];right;simp only[ro.g_BOUND];right;refine bq (k:=k-1) ro nofun hs z2 (λi H3 e3 z3=>?_) (λe3 e H' z'=>by rw[e3]at q;exact q e H' z');rw[e3]at q;obtain⟨i0,i1,_⟩:=av e3;right;intro x dx' h1 h2 h3;refine Gn (k:=k-1) ro nofun i0 i1 (gm z3 h1 h2 h3) λH4 z4=>⟨rfl,?_⟩
  exact q x H4 ⟨i0,i1⟩ z4
 rw[if_neg (by rw[e1];exact Bool.false_ne_true)]at q;right;refine⟨_,22,_,_,_,rfl,z.at,rfl,rfl,?_⟩;right;refine aH nofun z (λH1 e1 z1=>?_) (λe1=>?_)
 .rw[if_pos e1]at q;unfold uu at q;right;refine⟨_,22,_,_,_,rfl,z1.at,rfl,rfl,?_⟩;right;refine bg (k:=k-1) ro nofun z1 (λb H2 e2 z2=>?_) (λe2 e H' z'=>by rw[e2]at q;exact q e H' z');rw[e2]at q;right;refine⟨_,22,_,_,_,rfl,z2.at,rfl,rfl,?_⟩;right;refine bg (k:=k-1) ro nofun z2 (λc H2 e3 z3=>?_) (λe3 e H' z'=>by rw[e3]at q;exact q e H' z');rw[e3]at q;right;intro x dx' h1 h2 h3;refine Fh (k:=k-1) ro nofun (gm z3 h1 h2 h3) λH4 z4=>⟨rfl,?_⟩
  exact q x H4 trivial z4
 rw[if_neg (by rw[e1];exact Bool.false_ne_true)]at q;right;refine⟨_,22,_,_,_,rfl,z.at,rfl,rfl,?_⟩;right;refine aH nofun z (λH1 e1 z1=>?_) (λe1=>?_)
 .rw[if_pos e1]at q;unfold nM at q;right;refine⟨_,22,_,_,_,rfl,z1.at,rfl,rfl,?_⟩;right;refine bg (k:=k-1) ro nofun z1 (λb H2 e2 z2=>?_) (λe2 e H' z'=>by rw[e2]at q;exact q e H' z');rw[e2]at q;right;intro x dx' h1 h2 h3;refine F5 (k:=k-1) ro nofun (gm z2 h1 h2 h3) λH4 z4=>⟨rfl,?_⟩
  exact q x H4 trivial z4
 rw[if_neg (by rw[e1];exact Bool.false_ne_true)]at q;right;refine⟨_,22,_,_,_,rfl,z.at,rfl,rfl,?_⟩;right;refine aH nofun z (λH1 e1 z1=>?_) (λe1=>?_)
 .rw[if_pos e1]at q;unfold nM at q;right;refine⟨_,22,_,_,_,rfl,z1.at,rfl,rfl,?_⟩;right;refine bg (k:=k-1) ro nofun z1 (λb H2 e2 z2=>?_) (λe2 e H' z'=>by rw[e2]at q;exact q e H' z');rw[e2]at q;right;intro x dx' h1 h2 h3;refine GJ (k:=k-1) ro nofun (gm z2 h1 h2 h3) λH4 z4=>⟨rfl,?_⟩
  exact q x H4 trivial z4
 rw[if_neg (by rw[e1];exact Bool.false_ne_true)]at q;right;refine⟨_,22,_,_,_,rfl,z.at,rfl,rfl,?_⟩;right;refine aH nofun z (λH1 e1 z1=>?_) (λe1=>?_)
 .rw[if_pos e1]at q;right;exact tw ro nofun hs z1 q
 rw[if_neg (by rw[e1];exact Bool.false_ne_true)]at q;right;exact qd ro nofun z q
end
abbrev AY (ws:List Str)(n:Nat):Option Str:=match ws[n]? with
 |some w=>if jF w then some w else none
 |none=>none
abbrev Hn (B:Nat->Rd (List Itm))(ws:List Str)(n:Nat):Rd Itm:=match aR ws n 0 9 with
 |none=>.no n
 |some m=>match B (n+1) with
  | .no e=>.no e
  | .ok b e=>.ok (.tms m b) e
abbrev w6 (B:Nat->Rd (List Itm))(ws:List Str)(o:Int)(b:List Itm)(e:Nat):Rd Itm:=if isAt ws e sY then(match B (e+1) with
 | .no e2=>.no e2
 | .ok c e2=>.ok (.whn o b c) e2) else .ok (.whn o b []) e
abbrev GF (B:Nat->Rd (List Itm))(ws:List Str)(n:Nat):Rd Itm:=match aR ws n 0 1 with
 |none=>.no n
 |some o=>match B (n+1) with
  | .no e=>.no e
  | .ok b e=>w6 B ws o b e
abbrev zt (ws:List Str)(n:Nat):Rd Itm:=match AY ws n with
 |some w=>.ok (.dO w) (n+1)
 |none=>.no n
abbrev vV:Rd Rw->Rd Itm
 | .ok r m=>.ok (.row r) m
 | .no m=>.no m
abbrev cy (B:Nat->Rd (List Itm))(ws:List Str)(n:Nat):Rd Itm:=
 if isAt ws n uS then zt ws (n+1) else if isAt ws n zN then Hn B ws (n+1) else if isAt ws n pT then GF B ws (n+1) else vV (og ws n)
abbrev gN (I:Nat->Rd Itm)(ws:List Str):Nat->Nat->List Itm->Rd (List Itm)
 |0,n,acc=>if isAt ws n cD then .ok acc (n+1) else .no n
 |k+1,n,acc=>if isAt ws n cR then(match I (n+1) with
  | .no e=>.no e
  | .ok i e=>gN I ws k e (acc++[i])) else if isAt ws n cD then .ok acc (n+1) else .no n
abbrev ir (I:Nat->Rd Itm)(ws:List Str)(n:Nat):Rd (List Itm):=match I n with
 | .no e=>.no e
 | .ok i e=>gN I ws 23 e [i]
abbrev lO (I:Nat->Rd Itm)(ws:List Str)(n:Nat):Rd (List Itm):=
 if isAt ws n ij then(if isAt ws (n+1) cD then .ok [] (n+2) else ir I ws (n+1)) else .no n
abbrev aW (ws:List Str):Nat->Nat->Rd (List Itm)
 |0=>λn=>.no n
 |L+1=>lO (cy (aW ws L) ws) ws
abbrev EH (R:Rt)(a dx qa:Addr)(ws:List Str)(L:Nat)(G F:List ai)(Q:VK)(E:XK):Rd (List Itm)->Prop
 | .ok b m=>∀ l vs Δ H',zZ L b->d8 (j8 R (Δ++F) L) vs b->Sep (pt l (wl vs)::pt a (bI R dx qa m)::pt qa (bP ws)::(G++(Δ++F))) H'->Q (ut l) H'
 | .no m=>∀ e Δ H',Sep (lZ (R.cad 4) [("at",v0 (m:Int))] e false::(Δ++(G++F))) H'->E e H'
abbrev Hm (R:Rt)(a dx qa:Addr)(ws:List Str)(L:Nat)(G F:List ai)(Q:VK)(E:XK):Rd Itm->Prop
 | .ok i m=>∀ d Δ H',gb L i->j8 R (Δ++F) L (ut d) i->Sep (pt a (bI R dx qa m)::pt qa (bP ws)::(G++(Δ++F))) H'->Q (ut d) H'
 | .no m=>∀ e Δ H',Sep (lZ (R.cad 4) [("at",v0 (m:Int))] e false::(Δ++(G++F))) H'->E e H'
abbrev zK (R:Rt)(L:Nat):Prop:=∀ {k n:Nat}{a dx qa:Addr}{ws:List Str}{F G:List ai}{H:Hp}{Q:VK}{E:XK},3*L+10<=k->(∀ w ∈ ws,w.length<=100000)->Sep (pt a (bI R dx qa n)::pt qa (bP ws)::(G++F)) H->EH R a dx qa ws (L-1) G F Q E (aW ws L n)->ae tab R k 54 [ut a,v0 (5-(L:Int))] H Q E
abbrev FN (R:Rt)(L:Nat):Prop:=∀ {k n:Nat}{a dx qa:Addr}{ws:List Str}{F G:List ai}{H:Hp}{Q:VK}{E:XK},3*L+12<=k->(∀ w ∈ ws,w.length<=100000)->Sep (pt a (bI R dx qa n)::pt qa (bP ws)::(G++F)) H->Hm R a dx qa ws L G F Q E (cy (aW ws L) ws n)->ae tab R k 53 [ut a,v0 (4-(L:Int))] H Q E
def qb {w:Str}(h:jF w=true):Nm w:=by
 unfold jF at h;simp only[mo,decide_eq_true_eq]at h;refine⟨⟨h.1,h.2.1⟩,λc hc=>?_⟩;have:=all_eq_true.mp h.2.2 c hc;unfold isA at this;simpa using this
def toF {L G F:List ai}(z:Sep (L++(G++F)) H):Sep (G++(L++F)) H:=Sep.mv (P:=[]) z
def k9 {A:ai}{L F:List ai}:A ∈ F->A ∈ L++F:=io L
section
variable {F G:List ai}{x dx p p':Addr}{vs vs':List V}
def wK {w:Str}(hk:1<=k)(z:Sep (pt x (wp (R.cad 13) dx [])::O) H)(q:∀ H',Sep (pt x (wp (R.cad 13) dx [("called",v6 w)])::O) H'->Q wf H'):ae tab R k 24 [ut x,v6 w] H Q E:=by
 delta eY;right;exact q _ (by assumption)
def xo {m:Int}(hk:1<=k)(hp:pt p (wl vs) ∈ F)(z:Sep (pt x (wp (R.cad 14) dx [])::(G++F)) H)(q:∀ l H',Sep (pt x (wp (R.cad 14) dx [("many",v0 m),("block",ut l)])::pt l (wl vs)::(G++F)) H'->Q wf H'):ae tab R k 26 [ut x,v0 m,ut p] H Q E:=by
 delta cK;right;rename_i H1 z1;refine aU z1 (fz (G:=_::G) hp z1) (λl H2 z2=>?_);right;rename_i H3 z3;exact q l _ (z3.pull .k1)
def uc {o:Int}(hk:1<=k)(hp:pt p (wl vs) ∈ F)(hp':pt p' (wl vs') ∈ F)(z:Sep (pt x (wp (R.cad 15) dx [])::(G++F)) H)(q:∀ l l' H',Sep (pt x (wp (R.cad 15) dx [("on",v0 o),("block",ut l),("other",ut l')])::pt l (wl vs)::pt l' (wl vs')::(G++F)) H'->Q wf H'):ae tab R k 28 [ut x,v0 o,ut p,ut p'] H Q E:=by
 delta bG;right;rename_i H1 z1;refine aU z1 (fz (G:=_::G) hp z1) (λl H2 z2=>?_);right;rename_i H3 z3;refine aB ?_;right;refine aU z3 (fz (G:=_::_::G) hp' z3) (λl' H4 z4=>?_);right;rename_i H5 z5;exact q l l' _ (z5.sub (.cons .k2 (.cons .k1 (.cons .e .refl))))
def tL {o:Int}(hk:1<=k)(hp:pt p (wl vs) ∈ F)(z:Sep (pt x (wp (R.cad 15) dx [])::(G++F)) H)(q:∀ l l' H',Sep (pt x (wp (R.cad 15) dx [("on",v0 o),("block",ut l),("other",ut l')])::pt l (wl vs)::pt l' (wl [])::(G++F)) H'->Q wf H'):ae tab R k 28 [ut x,v0 o,ut p,wf] H Q E:=by
 delta bG;right;rename_i H1 z1;refine aU z1 (fz (G:=_::G) hp z1) (λl H2 z2=>?_);right;rename_i H3 z3;refine aB ?_;right;rename_i l' H4 z4 H5 z5;exact q l l' _ (z5.sub (.cons .k2 (.cons .k1 (.cons .e .refl))))
end
section
variable {F G:List ai}{L:Nat}
def Cy {l qa:Addr}{ws:List Str}(z:Sep (pt l (wl vs)::pt a (bI R dx qa m)::pt qa (bP ws)::(G++(Δ++F))) H):Sep (pt a (bI R dx qa m)::pt qa (bP ws)::(G++((pt l (wl vs)::Δ)++F))) H:=by
 have z1:=Sep.mv (P:=[pt a (bI R dx qa m),pt qa (bP ws)]) (Δ:=[pt l (wl vs)]) (L:=G) (O:=Δ++F) (z.sub (.cons .k1 (.cons .k1 (.cons .e .refl))));exact z1
def pM (ro:Ro K R)(ih:zK R L):FN R L:=by
 intro k n a dx qa ws F G H Q E hk hs z q;delta iW;unfold cy at q;have ed:4-(L:Int)+1=5-(L:Int):=by omega
 right;refine⟨_,22,_,_,_,rfl,z.at,rfl,rfl,?_⟩;right;refine aH nofun z (λH1 e1 z1=>?_) (λe1=>?_)
 .rw[if_pos e1]at q;unfold zt at q;right;refine⟨_,22,_,_,_,rfl,z1.at,rfl,rfl,?_⟩;right;refine qP ro nofun hs z1 (λw H2 e2 hw z2=>?_) (λe2 e H' z'=>?_)
  .rw[show AY ws (n+1)=some w by unfold AY;rw[e2];exact if_pos hw]at q;right;intro x dx' h1 h2 h3;refine wK nofun (gm z2 h1 h2 h3) (λH3 z3=>⟨rfl,?_⟩);have hn:=qb hw;refine q x [pt x (wp (R.cad 13) dx' [("called",v6 w)])] H3 (by cases L<;>exact hn) (by cases L<;>exact⟨x,dx',rfl,lv⟩) ?_;exact Sep.mv (P:=[pt a (bI R dx qa (n+1+1)),pt qa (bP ws)]) (Δ:=[pt x _]) (L:=G) (O:=F) (z3.sub (.cons .k2 (.cons .k2 (.cons .e (.drop .refl)))))
  .have q:Hm R a dx qa ws L G F Q E (.no (n+1)):=by
    rw[show AY ws (n+1)=none by
     unfold AY;cases e3:ws[n+1]? with
     |none=>rfl
     |some w=>rw[e3]at e2;exact if_neg (by rw[show jF w=false from e2];exact Bool.false_ne_true)]at q
    exact q
   exact q e [] H' z'
 rw[if_neg (by rw[e1];exact Bool.false_ne_true)]at q;right;refine⟨_,22,_,_,_,rfl,z.at,rfl,rfl,?_⟩;right;refine aH nofun z (λH1 e1 z1=>?_) (λe1=>?_)
 .rw[if_pos e1]at q;unfold Hn at q;right;refine⟨_,22,_,_,_,rfl,z1.at,rfl,rfl,?_⟩;right;simp only[ro.g_MOST_TIMES];right;refine bq (k:=k-1) ro nofun hs z1 (λm H2 e2 z2=>?_) (λe2 e H' z'=>by rw[e2]at q;exact q e [] H' z');rw[e2]at q;obtain⟨m0,m1,_⟩:=av e2;right;rw[ed];refine ih (k:=k-1) nofun hs z2 ?_;cases eB:aW ws L (n+1+1) with
  |no e=>rw[eB]at q;exact q
  |ok b e=>
   rw[eB]at q;intro l vs Δ H3 okb al z3;cases L with
   |zero=>cases eB
   |succ L=>
    right;intro x dx' h1 h2 h3;have z4:=Cy z3;have z5:=gm (C:=R.cad 14) z4 h1 h2 h3;refine xo (G:=pt dx' (.own x)::pt a (bI R dx qa e)::pt qa (bP ws)::G) (F:=(pt l (wl vs)::Δ)++F) nofun lv z5 λl2 H4 z6=>⟨rfl,?_⟩
    refine q x (pt x (wp (R.cad 14) dx' [("many",v0 m),("block",ut l2)])::pt l2 (wl vs)::(pt l (wl vs)::Δ)) H4 ⟨⟨m0,m1⟩,okb⟩ ⟨x,dx',l2,vs,rfl,lv,f8 _ lv,al.map λv i=>j8.mono λA h=>f8 _ (f8 _ (f8 _ h))⟩ ?_;exact Sep.mv (P:=[pt a (bI R dx qa e),pt qa (bP ws)]) (Δ:=[pt x _,pt l2 _]) (L:=G) (O:=(pt l (wl vs)::Δ)++F) (z6.sub (.cons .k3 (.cons .k3 (.cons .e (.cons .e (.drop .refl))))))
 rw[if_neg (by rw[e1];exact Bool.false_ne_true)]at q;right;refine⟨_,22,_,_,_,rfl,z.at,rfl,rfl,?_⟩;right;refine aH nofun z (λH1 e1 z1=>?_) (λe1=>?_)
 .rw[if_pos e1]at q;unfold GF at q;right;rw[ed];delta iN;right;refine⟨_,22,_,_,_,rfl,z1.at,rfl,rfl,?_⟩;right;refine bq (k:=k-1-1) ro nofun hs z1 (λo H2 e2 z2=>?_) (λe2 e H' z'=>by rw[e2]at q;exact q e [] H' z');rw[e2]at q;obtain⟨o0,o1,_⟩:=av e2;have ho:o=0\/o=1:=by omega
  right;refine ih (k:=k-1-1) nofun hs z2 ?_;cases eB:aW ws L (n+1+1) with
  |no e=>rw[eB]at q;exact q
  |ok b e=>
   rw[eB]at q;have q:Hm R a dx qa ws L G F Q E (w6 (aW ws L) ws o b e):=q;unfold w6 at q;intro l vs Δ H3 okb al z3;have z4:=Cy z3;right;refine⟨_,22,_,_,_,rfl,z4.at,rfl,rfl,?_⟩;right;refine aH nofun z4 (λH4 e4 z5=>?_) (λe4=>?_)
   .rw[if_pos e4]at q;right;refine ih (k:=k-1-1) (F:=(pt l (wl vs)::Δ)++F) (G:=G) nofun hs z5 ?_;cases eC:aW ws L (e+1) with
    |no e2=>
     rw[eC]at q;intro e3 Δ2 H5 z6;refine q e3 (Δ2++(pt l (wl vs)::Δ)) H5 ?_;have z7:=Sep.mv (P:=lZ (R.cad 4) [("at",v0 (e2:Int))] e3 false::Δ2) (Δ:=G) (L:=pt l (wl vs)::Δ) (O:=F) (by simpa using z6);simpa using z7
    |ok c e2=>
     rw[eC]at q;intro l' vs' Δ2 H5 okc uW z6;cases L with
     |zero=>cases eB
     |succ L=>
      right;intro x dx' h1 h2 h3;have z7:=Cy z6;have z8:=gm (C:=R.cad 15) z7 h1 h2 h3;refine uc (G:=pt dx' (.own x)::pt a (bI R dx qa e2)::pt qa (bP ws)::G) (F:=(pt l' (wl vs')::Δ2)++((pt l (wl vs)::Δ)++F)) (p:=l) (p':=l') (vs:=vs) (vs':=vs') nofun (k9 lv) lv z8 λl2 l3 H6 z9=>⟨rfl,?_⟩
      have up:∀ A,A ∈ Δ2++((pt l (wl vs)::Δ)++F)->A ∈ (pt x (wp (R.cad 15) dx' [("on",v0 o),("block",ut l2),("other",ut l3)])::pt l2 (wl vs)::pt l3 (wl vs')::(pt l' (wl vs')::(Δ2++(pt l (wl vs)::Δ))))++F:=λA h=>by
       refine f8 _ (f8 _ (f8 _ (f8 _ ?_)));show A ∈ (Δ2++(pt l (wl vs)::Δ))++F;rw[lf];exact h
      refine q x _ H6 ⟨ho,okb,okc⟩ ⟨x,dx',l2,vs,l3,vs',rfl,lv,⟨f8 _ lv,al.map λv i=>j8.mono λA h=>up A (k9 (f8 _ h))⟩,f8 _ (f8 _ lv),uW.map λv i=>j8.mono up⟩ ?_;have za:=Sep.mv (P:=[pt a (bI R dx qa e2),pt qa (bP ws)]) (Δ:=[pt x _,pt l2 _,pt l3 _]) (L:=G) (O:=(pt l' (wl vs')::Δ2)++((pt l (wl vs)::Δ)++F)) (z9.sub (.cons (.t .k3) (.cons (.t .k3) (.cons .e (.cons .e (.cons .e (.drop .refl)))))));simpa using za
   .rw[if_neg (by rw[e4];exact Bool.false_ne_true)]at q;cases L with
    |zero=>cases eB
    |succ L=>
     right;intro x dx' h1 h2 h3;have z8:=gm (C:=R.cad 15) z4 h1 h2 h3;refine tL (G:=pt dx' (.own x)::pt a (bI R dx qa e)::pt qa (bP ws)::G) (F:=(pt l (wl vs)::Δ)++F) nofun lv z8 λl2 l3 H6 z9=>⟨rfl,?_⟩
     refine q x (pt x (wp (R.cad 15) dx' [("on",v0 o),("block",ut l2),("other",ut l3)])::pt l2 (wl vs)::pt l3 (wl [])::(pt l (wl vs)::Δ)) H6 ⟨ho,okb,by decide,λi hi=>nomatch hi⟩ ⟨x,dx',l2,vs,l3,[],rfl,lv,⟨f8 _ lv,al.map λv i=>j8.mono λA h=>f8 _ (f8 _ (f8 _ (f8 _ h)))⟩,f8 _ (f8 _ lv),.nil⟩ ?_;exact Sep.mv (P:=[pt a (bI R dx qa e),pt qa (bP ws)]) (Δ:=[pt x _,pt l2 _,pt l3 _]) (L:=G) (O:=(pt l (wl vs)::Δ)++F) (z9.sub (.cons (.t .k3) (.cons (.t .k3) (.cons .e (.cons .e (.cons .e (.drop .refl)))))))
 rw[if_neg (by rw[e1];exact Bool.false_ne_true)]at q;right;refine qF ro nofun hs z ?_;cases eD:og ws n with
 |no m=>rw[eD]at q;exact λe H' z'=>q e [] H' z'
 |ok r m=>
  rw[eD]at q;intro d H' okr z';have q:Hm R a dx qa ws L G F Q E (.ok (.row r) m):=q;refine q d [yn R d r] H' (by cases L<;>exact okr) (by cases L<;>exact⟨d,rfl,lv⟩) ?_;exact Sep.mv (P:=[pt a (bI R dx qa m),pt qa (bP ws)]) (Δ:=[yn R d r]) (L:=G) (O:=F) (z'.sub (.cons .k1 (.cons .k1 (.cons .e .refl))))
end
section
variable {F G:List ai}{L:Nat}
def Bj (ro:Ro K R):zK R 0:=by
 intro k n a dx qa ws F G H Q E hk hs z q;delta bJ;have e1:=z.at;unfold bI at e1;right;simp only[ro.g_DEEPEST];right;refine aj e1 rfl rfl rfl ?_;right;exact λe he=>bA nofun (z.drop.drop.new he) (λd H3 hs3=>⟨rfl,lC (G:=⟨tab,R,ae tab R (k-1),true⟩) hs3 .e rfl (λH4 hs4=>q e [] H4 (rX hs4))⟩)
abbrev IM (R:Rt)(p a dx qa:Addr)(ws:List Str)(L:Nat)(F G:List ai)(res:Rd (List Itm))(j:Nat)(H:Hp):Prop:=∃ (acc:List Itm) (e:Nat) (vs:List V) (Δ:List ai),acc.length+j=24/\(∀ i ∈ acc,gb L i)/\gN (cy (aW ws L) ws) ws j e acc=res/\d8 (j8 R (Δ++F) L) vs acc/\Sep (pt p (wl vs)::pt a (bI R dx qa e)::pt qa (bP ws)::(G++(Δ++F))) H
def pC (ro:Ro K R)(ih:FN R L):zK R (L+1):=by
 intro k n a dx qa ws F G H Q E hk hs z q;have q:EH R a dx qa ws L G F Q E (lO (cy (aW ws L) ws) ws n):=q;have ed:5-((L+1:Nat):Int)=4-(L:Int):=by omega
 unfold lO at q;delta bJ;right;simp only[ro.g_DEEPEST];right;refine aD (decide_eq_false nofun) ?_;right;refine⟨_,22,_,_,_,rfl,z.at,rfl,rfl,?_⟩;right;refine fD nofun z (λH1 e1 z1=>?_) (λe1 e H' z'=>?_)
 rotate_left
 .rw[if_neg (by rw[e1];exact Bool.false_ne_true)]at q;exact q e [] H' z'
 rw[if_pos e1]at q;right;refine⟨_,22,_,_,_,rfl,z1.at,rfl,rfl,?_⟩;right;refine aH nofun z1 (λH2 e2 z2=>?_) (λe2=>?_)
 .rw[if_pos e2]at q;right;rename_i p H3 z3;exact q p [] [] H3 ⟨by decide,λi hi=>nomatch hi⟩ .nil z3
 rw[if_neg (by rw[e2];exact Bool.false_ne_true)]at q;unfold ir at q;right;rw[ed];refine ih (k:=k-1) nofun hs z1 ?_;cases eI:cy (aW ws L) ws (n+1) with
 |no e=>rw[eI]at q;exact q
 |ok i e=>
  rw[eI]at q;have q:EH R a dx qa ws L G F Q E (gN (cy (aW ws L) ws) ws 23 e [i]):=q;intro d Δ H3 oki hi z3;right;rename_i p H4 z4;refine⟨λm U H=>U=[some (ut a),some (v0 (4-(L:Int))),some (ut p)]/\IM R p a dx qa ws L F G (gN (cy (aW ws L) ws) ws 23 e [i]) m H,⟨23,rfl,[i],e,[ut d],Δ,rfl,λx hx=>by rw[mem_singleton.mp hx];exact oki,rfl,d8.snoc .nil hi,z4⟩,?_⟩;rintro m U H ⟨rfl,acc,e5,vs,Δ5,hl,okA,er,al,z5⟩;have q:EH R a dx qa ws L G F Q E (gN (cy (aW ws L) ws) ws m e5 acc):=by rw[er];exact q
  have hvl:=al.1;have fin:∀ {H:Hp},Sep (pt p (wl vs)::pt a (bI R dx qa e5)::pt qa (bP ws)::(G++(Δ5++F))) H->EH R a dx qa ws L G F Q E (if isAt ws e5 cD then .ok acc (e5+1) else .no e5)->wB (fM 5 bJ.body) ⟨tab,R,ae tab R (k-1),true⟩ { nx:=λ_ H'=>Q wf H',rt:=Q } (λ_=>E) [some (ut a),some (v0 (4-(L:Int))),some (ut p)] H:=by
   intro H z q;right;refine⟨_,22,_,_,_,rfl,z.get .k1,rfl,rfl,?_⟩;right;refine fD (O:=pt p (wl vs)::(G++(Δ5++F))) nofun (z.sub (.cons .k1 (.cons .k1 (.cons .e .refl)))) (λH1 e1 z1=>?_) (λe1 e H' z'=>?_)
   .rw[if_pos e1]at q;right;exact q p vs Δ5 H1 ⟨by omega,okA⟩ al (z1.sub (.cons .k2 (.cons .e (.cons .e .refl))))
   .rw[if_neg (by rw[e1];exact Bool.false_ne_true)]at q;refine q e (pt p (wl vs)::Δ5) H' ?_;have z2:=Sep.mv (P:=[lZ (R.cad 4) [("at",v0 (e5:Int))] e false,pt p (wl vs)]) (Δ:=G) (L:=Δ5) (O:=F) z';exact z2
  right;simp only[ro.g_MOST_ITEMS];right;cases m with
  |zero=>
   refine aD (decide_eq_false nofun) ?_;refine aD rfl ?_;exact fin z5 q
  |succ m=>
   have q:EH R a dx qa ws L G F Q E (if isAt ws e5 cR then(match cy (aW ws L) ws (e5+1) with| .no e=>.no e| .ok i e=>gN (cy (aW ws L) ws) ws m e (acc++[i])) else if isAt ws e5 cD then .ok acc (e5+1) else .no e5):=q;refine aG (decide_eq_true nofun) ?_;right;refine⟨_,22,_,_,_,rfl,z5.get .k1,rfl,rfl,?_⟩;right;have z6:=z5.sub (Γ':=pt a (bI R dx qa e5)::pt qa (bP ws)::((pt p (wl vs)::G)++(Δ5++F))) (.cons .k1 (.cons .k1 (.cons .e .refl)));refine aH nofun z6 (λH7 e7 z7=>?_) (λe7=>?_)
   .rw[if_pos e7]at q;have er:(if isAt ws e5 cR then(match cy (aW ws L) ws (e5+1) with| .no e=>Rd.no e| .ok i e=>gN (cy (aW ws L) ws) ws m e (acc++[i])) else if isAt ws e5 cD then Rd.ok acc (e5+1) else Rd.no e5)=_:=er;rw[if_pos e7]at er;refine aG rfl ?_;refine⟨λσ' H'=>σ'=[some (ut a),some (v0 (4-(L:Int))),some (ut p)]/\IM R p a dx qa ws L F G (gN (cy (aW ws L) ws) ws 23 e [i]) m H',λσ' H' hN=>⟨m,Nat.lt_succ_self m,hN⟩,?_⟩;right;refine⟨_,_,rfl,z7.get .k2,?_⟩;right;refine ih (k:=k-1) (G:=pt p (wl vs)::G) (F:=Δ5++F) nofun hs z7 ?_;cases eJ:cy (aW ws L) ws (e5+1) with
    |no e8=>
     rw[eJ]at q;intro e9 Δ9 H9 z9;refine q e9 (Δ9++(pt p (wl vs)::Δ5)) H9 ?_;have za:=Sep.mv (P:=lZ (R.cad 4) [("at",v0 (e8:Int))] e9 false::(Δ9++[pt p (wl vs)])) (Δ:=G) (L:=Δ5) (O:=F) (by simpa using z9);simpa using za
    |ok i2 e8=>
     rw[eJ]at q er;intro d2 Δ9 H9 ok2 im2 z9;left;refine⟨_,z9.get .k2,fZ z9 .k2 nofun λH10 za=>?_⟩;right;refine⟨acc++[i2],e8,vs++[ut d2],Δ9++Δ5,?_,λx hx=>?_,er,?_,?_⟩
     .rw[db,gt];omega
     .rcases mem_append.mp hx with hx|hx
      .exact okA x hx
      .rw[mem_singleton.mp hx];exact ok2
     .rw[lf];exact(al.map λv i=>j8.mono λA=>k9).snoc im2
     .rw[lf];exact za.sub (.cons .k2 (.cons .e (.cons .e .refl)))
   .rw[if_neg (by rw[e7];exact Bool.false_ne_true)]at q;refine aD rfl ?_;exact fin z5 q
def GI (ro:Ro K R):∀ L,zK R L
 |0=>Bj ro
 |L+1=>pC ro (pM ro (GI ro L))
end
section
variable {a dx qa:Addr}{ws:List Str}{n:Nat}
def vR {t:Str}(hk:1<=k)(ht:t.length<=100000)(hs:Txt.split t bM=ws)(z:Sep (pt a (wp (R.cad 22) dx [])::O) H)(q:∀ qa H',Sep (pt a (bI R dx qa 0)::pt qa (bP ws)::O) H'->Q wf H'):ae tab R k 39 [ut a,v6 t] H Q E:=by
 delta a7;right;refine⟨_,rfl,?_⟩;left;refine jZ z (by decide+kernel) ht λqa H1 z1=>?_
 rw[show(Str.ofString " ")=bM by decide+kernel,hs]at z1;right;rename_i H2 z2 H3 z3;exact q qa _ (z3.pull .k1)
def tF {t:String}(hk:2<=k)(hv:tyName v H=some t)(ht:tab.subB.lookup (t,"str")=some false) (z:Sep O H)
  (r:∀ e H',Sep (lZ (R.cad 4) [("at",v0 (-1))] e false::O) H'->E e H'):ae tab R k 39 [ut a,v] H Q E:=by
 delta a7;left;refine jO hv ht ?_;right;exact λe he=>bA nofun (z.new he) (λd H3 hs3=>⟨rfl,lC (G:=⟨tab,R,ae tab R (k-1),true⟩) hs3 .e rfl (λH4 hs4=>r e H4 (rX hs4))⟩)
def tO (hk:3<=k)(z:Sep (pt a (bI R dx qa n)::pt qa (bP ws)::O) H)(q:n=ws.length->Q wf H)(r:n≠ws.length->∀ e H',Sep (lZ (R.cad 4) [("at",v0 (n:Int))] e false::O) H'->E e H'):ae tab R k 48 [ut a] H Q E:=by
 delta dq;have e1:=z.at;have e2:=(z.pull .k1).at;unfold bI at e1;unfold bP at e2;have z1:=z.drop.drop;right;refine⟨_,22,_,_,_,rfl,z.at,rfl,rfl,?_⟩;right;delta d6;right;refine aj e1 rfl rfl rfl ?_;right;refine aj e1 rfl rfl rfl ?_;right;refine c6 e2 ?_;right
 by_cases h:n=ws.length
 .refine aG (by show((n:Int) ==((ws.map v6).length:Int))=true;rw[cr,h];exact beq_self_eq_true _) ?_;right;exact q h
 .refine aD (by show((n:Int) ==((ws.map v6).length:Int))=false;rw[cr];exact beq_eq_false_iff_ne.mpr nofun) ?_;right;refine aj e1 rfl rfl rfl ?_;right;exact λe he=>bA nofun (z1.new he) (λd H3 hs3=>⟨rfl,lC (G:=⟨tab,R,ae tab R (k-1),true⟩) hs3 .e rfl (λH4 hs4=>r h e H4 (rX hs4))⟩)
end
abbrev BK (ws:List Str):Rd (List Itm):=match aW ws 4 0 with
 | .ok b m=>if m=ws.length then .ok b m else .no m
 | .no m=>.no m
abbrev Ji (R:Rt)(G F:List ai)(Q:VK)(E:XK):Rd (List Itm)->Prop
 | .ok b _=>∀ l vs Δ H',zZ 3 b->d8 (j8 R (Δ++F) 3) vs b->Sep (pt l (wl vs)::(G++(Δ++F))) H'->Q (ut l) H'
 | .no m=>∀ e Δ H',Sep (lZ (R.cad 4) [("at",v0 (m:Int))] e false::(Δ++(G++F))) H'->E e H'
section
variable {F G:List ai}{ws:List Str}{t:Str}
def yF (ro:Ro K R)(hk:24<=k)(ht:t.length<=99999)(hs:Txt.split t bM=ws)(z:Sep (G++F) H)(q:Ji R G F Q E (BK ws)):ae tab R k 56 [v6 t] H Q E:=by
 have hw:∀ w ∈ ws,w.length<=100000:=λw hw=>by
  have h1:=mn hw;rw[<-hs,d9]at h1
  omega
 delta c8;unfold BK at q;right;intro x dx' g1 g2 g3;have z1:=(gm (C:=R.cad 22) z g1 g2 g3).sub (Γ':=pt x (wp (R.cad 22) dx' [])::(G++F)) (.cons .e (.drop .refl));refine vR nofun nofun hs z1 λqa H2 z2=>?_
 refine⟨rfl,?_⟩;right;delta gA;right;refine GI ro 4 (k:=k-1-1) (n:=0) nofun hw z2 ?_;cases eB:aW ws 4 0 with
 |no m=>rw[eB]at q;exact q
 |ok b m=>
  rw[eB]at q;have q:Ji R G F Q E (if m=ws.length then .ok b m else .no m):=q;intro l vs Δ H3 okb al z3;have z4:Sep (pt x (bI R dx' qa m)::pt qa (bP ws)::(pt l (wl vs)::(G++(Δ++F)))) H3:=z3.sub (.cons .k1 (.cons .k1 (.cons .e .refl)));right;refine⟨_,22,_,_,_,rfl,z4.at,rfl,rfl,?_⟩;right;refine tO nofun z4 (λhn=>?_) (λhn e H' z'=>?_)
  .rw[if_pos hn]at q;right;exact q l vs Δ H3 okb al z4.drop.drop
  .rw[if_neg hn]at q;refine q e (pt l (wl vs)::Δ) H' ?_;exact Sep.mv (P:=[lZ (R.cad 4) [("at",v0 (m:Int))] e false,pt l (wl vs)]) (Δ:=G) (L:=Δ) (O:=F) z'
abbrev oj (n:Nat)(b:List Itm):Str:=Txt.join bM (dQ n b)
def Aj {l:Addr}(ro:Ro K R)(hk:3*n+4<=k)(ok:zZ n b)(hl:(dQ n b).length<=9000)(ht:az (dQ n b)<=1000000)(pl:aw (pt l (wl vs)) (G++F) Δ)(a:d8 (j8 R F n) vs b)(z:Sep (G++F) H)(q:∀ H',Sep (G++F) H'->Q (v6 (oj n b)) H'):ae tab R k 60 [ut l] H Q E:=by
 delta gw;right;refine⟨_,rfl,?_⟩;left;refine⟨rfl,?_⟩;left;refine GK ro n (k:=k-1) nofun ok hl pl a z λp H1 z1=>?_
 refine eK (G:=⟨tab,R,ae tab R (k-1),true⟩) z1.at (by rw[gq];exact ht) (by decide+kernel) ?_;rw[show(Str.ofString " ")=bM by decide+kernel];exact q _ z1.drop
end
@[irreducible] noncomputable def Az (I:Nat->Addr->List V->Hp->Prop) (j:Nat) (D:Addr):VK:=λv H4=>∃ zs,H4 D=some (wl zs)/\zs.length<PySem.sizeLine/\∃ ys2,I (j+1) D ys2 (upd H4 D (wl (zs++[v])))
def Az.mk {j:Nat}(h1:H3 D=some (wl ys))(hl:ys.length<=999)(h2:I (j+1) D (ys++[v]) (upd H3 D (wl (ys++[v])))):Az I j D v H3:=by
 unfold Az;exact⟨ys,h1,cS nofun,ys++[v],h2⟩
@[irreducible] noncomputable def uT (I:Nat->Addr->List V->Hp->Prop) (te:TE) (j:Nat) (D:Addr) (rest:St) (x:V):Bool->Hp->Prop:=λb H3=>(b=true->te (some x::rest) H3 λv H4=>Az I j D v H4)/\(b=false->∃ ys2,I (j+1) D ys2 H3)
def uT.t {j:Nat}{x:V}{c:Bool}(e:c=true)(h:te (some x::rest) H3 λv H4=>Az I j D v H4):uT I te j D rest x c H3:=by
 unfold uT;exact⟨λ_=>h,λz=>(by rw[e]at z;cases z)⟩
def uT.f {j:Nat}{x:V}{c:Bool}(e:c=false)(h:I (j+1) D ys H3):uT I te j D rest x c H3:=by
 unfold uT;exact⟨λz=>(by rw[e]at z;cases z),λ_=>⟨ys,h⟩⟩
def Av {KK:W.Frag}{tc:TT}(I:Nat->Addr->List V->Hp->Prop)(hl:∀ j D ys H,I j D ys H->a5 KK H a xs) (h0:∀ D,H D=none->I 0 D [] (upd H D (wl [])))
  (hs:∀ j D ys x H',xs[j]? =some x->I j D ys H'->tc (some x::rest) H' (uT I te j D rest x))
  (hd:∀ D ys H',I xs.length D ys H'->Q (ut D) H'):BB tc te (ER KK a) (none::rest) H Q:=by
 unfold BB;intro D hD;refine⟨λi m σ' H'=>m=xs.length-i/\i<=xs.length/\∃ ys x0,σ'=x0::rest/\I i D ys H',⟨xs.length,by simp,Nat.zero_le _,[],none,rfl,h0 D hD⟩,λi m σ' H' ⟨e,hi,ys,x0,e1,h⟩=>?_⟩;subst e1
 by_cases hlt:i<xs.length
 .refine .inr ⟨⟨xs,xs[i],hl i D ys H' h,li hlt⟩,λσ2 H2=>∃ ys2 x2,σ2=x2::rest/\I (i+1) D ys2 H2,λσ2 H2 ⟨ys2,x2,f1,f3⟩=>⟨xs.length-(i+1),by omega,rfl,hlt,ys2,x2,f1,f3⟩,λx H'' y=>?_⟩;obtain⟨e1,hy⟩:=y;subst e1;have z:=hs i D ys x H'' (hy xs (hl i D ys H'' h)) h;have e:uT I te i D rest x=λb H3=>(b=true->te (some x::rest) H3 λv H4=>∃ zs,H4 D=some (wl zs)/\zs.length<PySem.sizeLine/\∃ ys2 x2,some x::rest=x2::rest/\I (i+1) D ys2 (upd H4 D (wl (zs++[v]))))/\(b=false->∃ ys2 x2,some x::rest=x2::rest/\I (i+1) D ys2 H3):=by
   funext b H3
   unfold uT;have e2:(λv H4=>Az I i D v H4)=λv H4=>∃ zs,H4 D=some (wl zs)/\zs.length<PySem.sizeLine/\∃ ys2 x2,some x::rest=x2::rest/\I (i+1) D ys2 (upd H4 D (wl (zs++[v]))):=by
    funext v H4
    unfold Az;exact propext ⟨λ⟨zs,a,b,ys2,c⟩=>⟨zs,a,b,ys2,_,rfl,c⟩,λ⟨zs,a,b,ys2,_,_,c⟩=>⟨zs,a,b,ys2,c⟩⟩
   rw[e2];exact propext ⟨λ⟨p,q⟩=>⟨p,λz=>let⟨y,w⟩:=q z;⟨y,_,rfl,w⟩⟩,λ⟨p,q⟩=>⟨p,λz=>let⟨y,_,_,w⟩:=q z;⟨y,w⟩⟩⟩
  rw[e]at z;exact z
 .have:i=xs.length:=by omega
  subst this;exact .inl ⟨⟨xs,hl _ D ys H' h,re _⟩,hd D ys H' h⟩
abbrev j6:V->Option V
 | v6 s=>some (v6 s)
 | v0 i=>some (v6 (toString i))
 |_=>none
abbrev Bo (v:V):Prop:=v=wf\/(∃ s,v=v6 s)\/∃ i:Int,v=v0 i/\ -1000000000<=i/\i<=1000000000
def Ap {j:Nat}(h:vs[j]? =some v):(vs.take (j+1)).filterMap j6=(vs.take j).filterMap j6++(j6 v).toList:=by
 rw[take_succ,h,List.filterMap_append];cases e:j6 v<;>simp[e]
def tB {t:Addr}(hp:∀ v ∈ vs,Bo v) (hn:vs.length<=100) (z:Sep (tu t vs::O) H) (q:∀ p H',Sep (pt p (wl (vs.filterMap j6))::tu t vs::O) H'->Q (ut p) H'):
  BB (λσ' H' Q'=>wT ⟨tab,R,ae tab R k,true⟩ (.cmp .IsNot (.v 0) Ex.non) σ' H' Q' E) (λσ' H' Q'=>wE ⟨tab,R,ae tab R k,true⟩ (.bf Bf.str (.cons (.v 0) .nil)) σ' H' Q' E) (ER R.K t) [none] H Q:=by
 refine Av (xs:=vs) (λj D ys H=>ys=(vs.take j).filterMap j6/\Sep (pt D (wl ys)::tu t vs::O) H) (λj D ys H hI=>a5.of (hI.2.drop).atT) (λD hD=>⟨rfl,z.new hD⟩) (λj D ys x H' hx hI=>?_) (λD ys H' hI=>?_)
 .obtain⟨e,hs⟩:=hI;have hy:ys.length<=999:=by
   rw[e];have h1:=List.length_filterMap_le j6 (vs.take j);have h2:=List.length_take_le j vs;have h3:(vs.take j).length<=vs.length:=List.length_take_le' j vs
   omega
  have hm:=Ap hx;left;rcases hp x (dl hx) with rfl|⟨s,rfl⟩|⟨i,rfl,i0,i1⟩
  .refine aS ?_;refine uT.f (ys:=ys) rfl ⟨?_,hs⟩;rw[hm,e];simp[j6]
  .refine aS ?_;refine uT.t rfl ?_;left;refine yC ?_;refine Az.mk hs.at hy ⟨?_,hs.set rfl⟩;rw[hm,e];simp[j6]
  .refine aS ?_;refine uT.t rfl ?_;left;refine mh i0 i1 ?_;refine Az.mk hs.at hy ⟨?_,hs.set rfl⟩;rw[hm,e];simp[j6]
 .obtain⟨e,hs⟩:=hI;rw[e,List.take_length]at hs;exact q D H' hs
def vZ (ok:r.ok):∀ v ∈ r.tl,Bo v:=by
 intro v hv;cases r with
 |lg w=>
  rw[mem_singleton.mp hv];exact .inr (.inl ⟨_,rfl⟩)
 |sp s=>
  cases s with
  |set b i=>
   simp only[Rw.tl,Sp.tl,lw,not_mem_nil,or_false]at hv;rcases hv with rfl|rfl|rfl
   .exact .inr (.inl ⟨_,rfl⟩)
   .exact .inr (.inl ⟨_,rfl⟩)
   .exact .inr (.inr ⟨i,rfl,ok.1,ok.2⟩)
  |add b i=>
   simp only[Rw.tl,Sp.tl,lw,not_mem_nil,or_false]at hv;rcases hv with rfl|rfl|rfl
   .exact .inr (.inl ⟨_,rfl⟩)
   .exact .inr (.inl ⟨_,rfl⟩)
   .exact .inr (.inr ⟨i,rfl,ok.1,ok.2⟩)
  |take b c=>
   simp only[Rw.tl,Sp.tl,lw,not_mem_nil,or_false]at hv;rcases hv with rfl|rfl|rfl<;>exact .inr (.inl ⟨_,rfl⟩)
  |read b=>
   simp only[Rw.tl,Sp.tl,lw,not_mem_nil,or_false]at hv;rcases hv with rfl|rfl<;>exact .inr (.inl ⟨_,rfl⟩)
  |write b=>
   simp only[Rw.tl,Sp.tl,lw,not_mem_nil,or_false]at hv;rcases hv with rfl|rfl<;>exact .inr (.inl ⟨_,rfl⟩)
 |hop n o=>
  obtain⟨⟨n0,n1⟩,ho⟩:=ok;simp only[Rw.tl,lw,not_mem_nil,or_false]at hv;rcases hv with rfl|rfl|rfl
  .exact .inr (.inl ⟨_,rfl⟩)
  .exact .inr (.inr ⟨n,rfl,by omega,by omega⟩)
  .cases o with
   |none=>exact .inl rfl
   |some i=>exact .inr (.inr ⟨i,rfl,by rcases ho with rfl|rfl<;>decide,by rcases ho with rfl|rfl<;>decide⟩)
def fK {t:Addr}(hk:1<=k)(ok:r.ok)(z:Sep (tu t r.tl::O) H)(q:∀ p H',Sep (pt p (wl r.wd)::tu t r.tl::O) H'->Q (ut p) H'):ae tab R k 64 [ut t] H Q E:=by
 delta gE;have hl:r.tl.length<=100:=by cases r with|lg w=>exact pc rfl|sp s=>(cases s<;>exact pc rfl)|hop n o=>exact pc rfl
 right;refine Gu (a5.of z.atT) ?_;refine tB (vZ ok) hl z (λp H1 z1=>?_);clear z;cases r with
 |lg w=>
  have z2:Sep (pt p (wl [v6 w.s])::tu t [v6 w.s]::O) H1:=z1;clear z1;right;refine aD (by cases w<;>decide+kernel) ?_;right;exact q p H1 z2
 |sp s=>
  cases s with
  |set b i=>
   have z2:Sep (pt p (wl [v6 "set",v6 b.nm,v6 (toString i)])::tu t [v6 "set",v6 b.nm,v0 i]::O) H1:=z1;clear z1;right
   repeat walk_at "sc"
   exact q p H1 z2
  |add b i=>
   have z2:Sep (pt p (wl [v6 "add",v6 b.nm,v6 (toString i)])::tu t [v6 "add",v6 b.nm,v0 i]::O) H1:=z1;clear z1;right
   repeat walk_at "sc"
   exact q p H1 z2
  |take b c=>
   have z2:Sep (pt p (wl [v6 "take",v6 b.nm,v6 c.nm])::tu t [v6 "take",v6 b.nm,v6 c.nm]::O) H1:=z1;clear z1;right
   repeat walk_at "sc"
   exact q p H1 z2
  |read b=>
   have z2:Sep (pt p (wl [v6 "read",v6 b.nm])::tu t [v6 "read",v6 b.nm]::O) H1:=z1;clear z1;right
   repeat walk_at "sc"
   exact q p H1 z2
  |write b=>
   have z2:Sep (pt p (wl [v6 "write",v6 b.nm])::tu t [v6 "write",v6 b.nm]::O) H1:=z1;clear z1;right
   repeat walk_at "sc"
   exact q p H1 z2
 |hop n o=>
  cases o with
  |none=>
   have z2:Sep (pt p (wl [v6 "hop",v6 (toString n)])::tu t [v6 "hop",v0 n,wf]::O) H1:=z1;clear z1;right
   repeat walk_at "sc"
   refine aS ?_;refine aD rfl ?_;right;exact q p H1 z2
  |some i=>
   have z2:Sep (pt p (wl [v6 "hop",v6 (toString n),v6 (toString i)])::tu t [v6 "hop",v0 n,v0 i]::O) H1:=z1;clear z1;right
   repeat walk_at "sc"
   refine aS ?_;refine aG rfl ?_;right;rename_i p9 H9 z9;have z10:=z9.sub (Γ':=pt p9 _::tu t [v6 "hop",v0 n,v0 i]::O) (by ac_nf);exact q p9 H9 z10
abbrev jl (ws:List Str):List Nat:=(Txt.join bM ws).cps.toList
def cp (x:Str):jl [x]=x.cps.toList:=by unfold jl;rw[show Txt.join bM [x]=Str.join bM [x] from StrLaws.glued_eq_join _ _];rfl
def bV {x y:Str}{r:List Str}:jl (x::y::r)=x.cps.toList++32::jl (y::r):=by
 unfold jl;rw[show Txt.join bM (x::y::r)=Str.join bM (x::y::r) from StrLaws.glued_eq_join _ _,show Txt.join bM (y::r)=Str.join bM (y::r) from StrLaws.glued_eq_join _ _,join_cons]
 rfl
def cC:∀ {a b:List Str},a≠[]->b≠[]->jl (a++b)=jl a++32::jl b
 | [],_,h,_=>absurd rfl h
 |_::_,[],_,h=>absurd rfl h
 | [x],y::r,_,_=>by rw[cp];exact bV
 |x::x2::a,y::r,_,h=>by
  have ih:=cC (a:=x2::a) (b:=y::r) (λz=>nomatch z) h;rw[cons_append,cons_append,bV,bV,lf];exact congrArg (λz=>x.cps.toList++32::z) ih
noncomputable abbrev t4:Str:=" ; "
def IJ:(t4).cps.toList=[32,59,32]:=by decide+kernel
def qX {x:List Str}{r:List (List Str)}(h:x≠[]):aL (x::r)≠[]:=by
 intro e;have e:x++(r.map λy=>cR::y).flatten=[]:=e;exact h (List.append_eq_nil_iff.mp e).1
def oZ:∀ {l:List (List Str)},l≠[]->(∀ x ∈ l,x≠[])->(Txt.join t4 (l.map (Txt.join bM))).cps.toList=jl (aL l)
 | [],h,_=>absurd rfl h
 | [x],_,_=>by
  rw[show Txt.join t4 ([x].map (Txt.join bM))=Str.join t4 [Txt.join bM x] from StrLaws.glued_eq_join _ _];show jl x=jl (x++[]);rw[append_nil]
 |x::y::r,_,h=>by
  have ih:=oZ (l:=y::r) (λz=>nomatch z) (λz hz=>h z (f8 _ hz));have hx:=h x lv;have hy:=h y (f8 _ lv);have e1:aL (x::y::r)=x++([cR]++aL (y::r)):=by
   show x++((cR::y)++(r.map λy=>cR::y).flatten)=x++([cR]++(y++(r.map λy=>cR::y).flatten))
   rfl
  rw[e1,cC hx (by simp),cC (a:=[cR]) (cons_ne_nil _ _) (qX hy),cp,<-ih];rw[show Txt.join t4 ((x::y::r).map (Txt.join bM))=Str.join t4 ((x::y::r).map (Txt.join bM)) from StrLaws.glued_eq_join _ _,show Txt.join t4 ((y::r).map (Txt.join bM))=Str.join t4 ((y::r).map (Txt.join bM)) from StrLaws.glued_eq_join _ _];show(Str.join t4 (Txt.join bM x::Txt.join bM y::r.map (Txt.join bM))).cps.toList=_;rw[join_cons,IJ];have e2:(cR).cps.toList=[59]:=by decide+kernel
  rw[e2]
  rfl
abbrev tT (n:Nat)(i:Itm):Str:=Txt.join bM (aK n i)
def FQ (r:Rw):r.zs≠[]:=by
 cases r with
 |lg w=>exact λh=>nomatch h
 |sp s=>cases s<;>exact λh=>nomatch h
 |hop n o=>cases o<;>exact λh=>nomatch h
def xY {i:Itm}(h:gb n i):aK n i≠[]:=by
 cases i with
 |row r=>cases n<;>exact FQ r
 |dO w=>cases n<;>exact λh=>nomatch h
 |tms m b=>cases n with
  |zero=>exact h.elim
  |succ n=>exact λh=>nomatch h
 |whn o b c=>cases n with
  |zero=>exact h.elim
  |succ n=>exact λh=>nomatch h
def aq (a b:Str):(a++b).length=a.length+b.length:=by
 rw[bX,W.KT.app_list,db,<-bX,<-bX]
def gC (a b:Str):(a++b).cps.toList=a.cps.toList++b.cps.toList:=W.KT.app_list a b
def E8 (hb:b≠[])(ok:∀ i ∈ b,gb n i):(oj n b).cps.toList=[40,32]++(Txt.join t4 (b.map (tT n))).cps.toList++[32,41]:=by
 show jl (ij::(aL (b.map (aK n))++[cD]))=_;have h1:∀ x ∈ b.map (aK n),x≠[]:=λx hx=>by
  obtain⟨i,hi,rfl⟩:=List.mem_map.mp hx;exact xY (ok i hi)
 have h2:b.map (aK n)≠[]:=by simpa using hb
 have h3:aL (b.map (aK n))≠[]:=by
  cases b with
  |nil=>exact absurd rfl hb
  |cons i r=>exact qX (h1 _ lv)
 rw[show ij::(aL (b.map (aK n))++[cD])=[ij]++(aL (b.map (aK n))++[cD]) from rfl,cC (a:=[ij]) (cons_ne_nil _ _) (by simp),cC h3 (cons_ne_nil _ _),cp,cp,<-oZ h2 h1,List.map_map];have e1:(ij).cps.toList=[40]:=by decide+kernel
 have e2:(cD).cps.toList=[41]:=by decide+kernel
 rw[e1,e2];simp
 rfl
def AK:oj n []=("( )":Str):=PyProof.Rows.ext_toList (by
 show jl [ij,cD]=_;rw[bV,cp]
 decide+kernel)
def eq_nil {b:Addr}(e1:H a=some (wl xs))(e2:H b=some (wl []))(ne:a≠b)(q:Q (.bl (decide (xs.length=0))) H):dw K false (ut a) (ut b) H Q:=by
 by_cases h:xs.length=0
 .rw[decide_eq_true h]at q;refine jN (.ll (n:=0) (e:=λ_=>true) (aP.of e1) (aP.of e2) h (λj x y _ hy=>nomatch hy)) (by decide) ne ?_;rw[h];exact q
 .rw[decide_eq_false h]at q;exact jN (.lln (n:=0) (aP.of e1) (aP.of e2) h) (by decide) ne q
def FW {o o':HO}{G F:List ai}(h:pt a o ∈ F)(z:Sep (pt p o'::(G++F)) H):a≠p:=let⟨_,pl⟩:=aI h;(z.pull (.t (ah pl))).ne
def ne_nil {b:Addr}(e1:H a=some (wl xs))(e2:H b=some (wl []))(ne:a≠b)(q:Q (.bl (!decide (xs.length=0))) H):dw K true (ut a) (ut b) H Q:=by
 by_cases h:xs.length=0
 .rw[decide_eq_true h]at q;refine fL (.ll (n:=0) (e:=λ_=>true) (aP.of e1) (aP.of e2) h (λj x y _ hy=>nomatch hy)) (by decide) ne ?_;rw[h];exact q
 .rw[decide_eq_false h]at q;exact fL (.lln (n:=0) (aP.of e1) (aP.of e2) h) (by decide) ne q
abbrev eP (F:List ai):Nat->V->Itm->Prop
 |_,v,.row r=>∃ t s,v=ut t/\tu t [v6 "deed",ut s] ∈ F/\tu s r.tl ∈ F
 |_,v,.dO w=>∃ t,v=ut t/\tu t [v6 "do",v6 w] ∈ F
 |n+1,v,.tms m b=>∃ t l vs,v=ut t/\tu t [v6 "times",v0 m,ut l] ∈ F/\pt l (wl vs) ∈ F/\d8 (eP F n) vs b
 |n+1,v,.whn o b c=>∃ t l vs l' vs',v=ut t/\tu t [v6 "when",v0 o,ut l,ut l'] ∈ F/\(pt l (wl vs) ∈ F/\d8 (eP F n) vs b)/\pt l' (wl vs') ∈ F/\d8 (eP F n) vs' c
 |0,_,.tms _ _=>False
 |0,_,.whn _ _ _=>False
def eP.mono {F F':List ai}(h:∀ A ∈ F,A ∈ F'):∀ {n:Nat}{v:V}{i:Itm},eP F n v i->eP F' n v i:=by
 intro n
 induction n with
 |zero=>
  intro v i;cases i with
  |row r=>exact λ⟨t,s,e,m,m2⟩=>⟨t,s,e,h _ m,h _ m2⟩
  |dO w=>exact λ⟨t,e,m⟩=>⟨t,e,h _ m⟩
  |tms m b=>exact λz=>z
  |whn o b c=>exact λz=>z
 |succ n ih=>
  intro v i;cases i with
  |row r=>exact λ⟨t,s,e,m,m2⟩=>⟨t,s,e,h _ m,h _ m2⟩
  |dO w=>exact λ⟨t,e,m⟩=>⟨t,e,h _ m⟩
  |tms m b=>exact λ⟨t,l,vs,e,m1,m2,a⟩=>⟨t,l,vs,e,h _ m1,h _ m2,a.map λv i=>ih⟩
  |whn o b c=>exact λ⟨t,l,vs,l',vs',e,m1,⟨m2,a⟩,m3,a'⟩=>⟨t,l,vs,l',vs',e,h _ m1,⟨h _ m2,a.map λv i=>ih⟩,h _ m3,a'.map λv i=>ih⟩
abbrev DB (R:Rt)(n:Nat):Prop:=∀ {k:Nat}{F G Δ:List ai}{l:Addr}{vs:List V}{b:List Itm}{H:Hp}{Q:VK}{E:XK},2*n+3<=k->zZ n b->az (dQ n b)<=90000->aw (pt l (wl vs)) (G++F) Δ->d8 (eP F n) vs b->Sep (G++F) H->(∀ H',Sep (G++F) H'->Q (v6 (oj n b)) H')->ae tab R k 69 [ut l] H Q E
abbrev GH (R:Rt)(n:Nat):Prop:=∀ {k:Nat}{F G:List ai}{v:V}{i:Itm}{H:Hp}{Q:VK}{E:XK},2*n+2<=k->gb n i->az (aK n i)<=90000->eP F n v i->Sep (G++F) H->(∀ H',Sep (G++F) H'->Q (v6 (tT n i)) H')->ae tab R k 68 [v] H Q E
def jJ:(oj n b).length<=az (dQ n b):=kz _
def CB {m:Int}:((Str.ofString "times "++nw m)++Str.ofString " ")++oj n b=tT (n+1) (.tms m b):=PyProof.Rows.ext_toList (by
 show _=jl ([zN,nw m]++dQ n b);rw[cC (a:=[zN,nw m]) (cons_ne_nil _ _) mW,bV,cp,gC,gC,gC,show(zN).cps.toList=[116,105,109,101,115] by decide+kernel,show(Str.ofString "times ").cps.toList=[116,105,109,101,115,32] by decide+kernel,show(Str.ofString " ").cps.toList=[32] by decide+kernel];show _=_++32::(oj n b).cps.toList;simp)
def AU {o:Int}:((Str.ofString "when "++nw o)++Str.ofString " ")++oj n b=tT (n+1) (.whn o b []):=PyProof.Rows.ext_toList (by
 show _=jl ([pT,nw o]++(dQ n b++[]));rw[append_nil,cC (a:=[pT,nw o]) (cons_ne_nil _ _) mW,bV,cp,gC,gC,gC,show(pT).cps.toList=[119,104,101,110] by decide+kernel,show(Str.ofString "when ").cps.toList=[119,104,101,110,32] by decide+kernel,show(Str.ofString " ").cps.toList=[32] by decide+kernel];show _=_++32::(oj n b).cps.toList;simp)
def AI {o:Int}{c:List Itm}(hc:c≠[]):((((Str.ofString "when "++nw o)++Str.ofString " ")++oj n b)++Str.ofString " else ")++oj n c=tT (n+1) (.whn o b c):=PyProof.Rows.ext_toList (by
 show _=jl ([pT,nw o]++(dQ n b++kF (c.map (aK n))));have e0:kF (c.map (aK n))=[sY]++dQ n c:=by unfold kF;rw[cr,if_neg (by simpa using hc)];rfl
 rw[e0,cC (a:=[pT,nw o]) (cons_ne_nil _ _) (by simp),cC (a:=dQ n b) mW (by simp),cC (a:=[sY]) (cons_ne_nil _ _) mW,bV,cp,cp,gC,gC,gC,gC,gC,show(pT).cps.toList=[119,104,101,110] by decide+kernel,show(Str.ofString "when ").cps.toList=[119,104,101,110,32] by decide+kernel,show(Str.ofString " ").cps.toList=[32] by decide+kernel,show(Str.ofString " else ").cps.toList=[32,101,108,115,101,32] by decide+kernel,show(sY).cps.toList=[101,108,115,101] by decide+kernel];show _=_++32::((oj n b).cps.toList++32::(_++32::(oj n c).cps.toList));simp)
section
variable {F G:List ai}{v:V}{n:Nat}
def uZ (ro:Ro K R)(ih:∀ m,n=m+1->DB R m):GH R n:=by
 intro k F G v i H Q E hk ok hl hi z q;delta cH;cases i with
 |row r=>
  obtain⟨t,s,rfl,m1,m2⟩:∃ t s,v=ut t/\tu t [v6 "deed",ut s] ∈ F/\tu s r.tl ∈ F:=by cases n<;>exact hi
  have ok':r.ok:=by cases n<;>exact ok
  have q:∀ H',Sep (G++F) H'->Q (v6 (Txt.join bM r.zs)) H':=by cases n<;>exact q
  have hl:az r.zs<=90000:=by cases n<;>exact hl
  have e:=fj m1 z;right;refine aV e rfl ?_;right;refine⟨_,rfl,?_⟩;left;refine⟨rfl,?_⟩;left;refine aV e rfl ?_;left;refine fK (O:=G++F) nofun ok' (Sep.Ha (fj m2 z) z) λp H1 z1=>?_
  rw[Rw.wN]at z1;refine eK (G:=⟨tab,R,ae tab R (k-1),true⟩) z1.at (by rw[gq];omega) (by decide+kernel) ?_;rw[show(Str.ofString " ")=bM by decide+kernel];exact q _ z1.drop.drop
 |dO w=>
  obtain⟨t,rfl,m1⟩:∃ t,v=ut t/\tu t [v6 "do",v6 w] ∈ F:=by cases n<;>exact hi
  have hn:Nm w:=by cases n<;>exact ok
  have q:∀ H',Sep (G++F) H'->Q (v6 (Txt.join bM [uS,w])) H':=by cases n<;>exact q
  have e:=fj m1 z;right;refine aV e rfl ?_;right;refine aV e rfl ?_;right;refine aV e rfl ?_;left;refine⟨by have:=hn.1.2;rw[show(Str.ofString "do ").length=3 by decide+kernel];omega,?_⟩;have e2:(Str.ofString "do ")++w=Txt.join bM [uS,w]:=PyProof.Rows.ext_toList (by
   show _=jl [uS,w];rw[bV,cp,gC,show(Str.ofString "do ").cps.toList=[100,111,32] by decide+kernel,show(uS).cps.toList=[100,111] by decide+kernel]
   rfl)
  rw[e2];exact q _ z
 |tms m b=>
  cases n with
  |zero=>exact hi.elim
  |succ n=>
   obtain⟨t,l,vs,rfl,m1,m2,a⟩:=hi;obtain⟨Δ,pl⟩:=aI m2;have e:=fj m1 z;have ok1:=ok.1;have hl:az (zN::nw m::dQ n b)<=90000:=hl;rw[aa,aa]at hl;right;refine aV e rfl ?_;right;refine aV e rfl ?_;right;refine aV e rfl ?_;right;refine aV e rfl ?_;right;refine jb nofun ?_;left;refine⟨by rw[show(Str.ofString "times ").length=6 by decide+kernel];omega,?_⟩;left;refine⟨by rw[aq,show(Str.ofString "times ").length=6 by decide+kernel,show(Str.ofString " ").length=1 by decide+kernel];omega,?_⟩;right;refine aV e rfl ?_;right;refine ih n rfl nofun ok.2 nofun (ah pl) a z λH1 z1=>?_
   left;have:=jJ (n:=n) (b:=b);refine⟨by rw[aq,aq,show(Str.ofString "times ").length=6 by decide+kernel,show(Str.ofString " ").length=1 by decide+kernel];omega,?_⟩;rw[CB];exact q _ z1
 |whn o b c=>
  cases n with
  |zero=>exact hi.elim
  |succ n=>
   obtain⟨t,l,vs,l',vs',rfl,m1,⟨m2,a⟩,m3,a'⟩:=hi;obtain⟨Δ,pl⟩:=aI m2;obtain⟨Δ',pl'⟩:=aI m3;have e:=fj m1 z;have ok1:=ok.1;have hl:az (pT::nw o::(dQ n b++kF (c.map (aK n))))<=90000:=hl;rw[aa,aa,au]at hl;right;refine aV e rfl ?_;right;refine aV e rfl ?_;right;refine aV e rfl ?_;right;refine aV e rfl ?_;right;refine jb nofun ?_;left;refine⟨by rw[show(Str.ofString "when ").length=5 by decide+kernel];omega,?_⟩;left;refine⟨by rw[aq,show(Str.ofString "when ").length=5 by decide+kernel,show(Str.ofString " ").length=1 by decide+kernel];omega,?_⟩;right;refine aV e rfl ?_;right;refine ih n rfl nofun ok.2.1 nofun (ah pl) a z λH1 z1=>?_
   left;have h1:=jJ (n:=n) (b:=b);have l1:(((Str.ofString "when "++nw o)++Str.ofString " ")).length=6+(nw o).length:=by rw[aq,aq,show(Str.ofString "when ").length=5 by decide+kernel,show(Str.ofString " ").length=1 by decide+kernel];omega
   refine⟨by rw[l1];omega,?_⟩;right;refine aV (fj m1 z1) rfl ?_;right;rename_i pn H2 z2;refine ne_nil (fz (G:=_::G) m3 z2) z2.at (FW m3 z2) ?_
   by_cases g:vs'.length=0
   .have hc:c=[]:=length_eq_zero_iff.mp (by rw[<-a'.1];exact g);subst hc;rw[decide_eq_true g];refine aD rfl ?_;right;rw[AU];exact q _ z2.drop
   .have hc:c≠[]:=λh=>g (by rw[a'.1,h];rfl)
    have e0:kF (c.map (aK n))=[sY]++dQ n c:=by unfold kF;rw[cr,if_neg (by simpa using hc)];rfl
    rw[e0,au,aa]at hl;rw[decide_eq_false g];refine aG rfl ?_;left;refine⟨by rw[aq,l1,show(Str.ofString " else ").length=6 by decide+kernel];omega,?_⟩;right;refine aV (fj (G:=_::G) m1 z2) rfl ?_;right;refine ih n rfl (G:=pt pn _::G) nofun ok.2.2 nofun (.t (ah pl')) a' z2 λH3 z3=>?_
    left;have h2:=jJ (n:=n) (b:=c);refine⟨by rw[aq,aq,l1,show(Str.ofString " else ").length=6 by decide+kernel];omega,?_⟩;right;rw[AI hc];exact q _ z3.drop
def rg (hi:GH R n):DB R n:=by
 intro k F G Δ l vs b H Q E hk ok hl pl a z q;delta iU;right;rename_i pn H1 z1;refine eq_nil (z1.get (.t pl)) z1.at ((z1.pull (.t pl)).ne) ?_;have hb:vs.length=b.length:=a.1;have hl30:=ok.1
 by_cases g:vs.length=0
 .have hc:b=[]:=length_eq_zero_iff.mp (by rw[<-hb];exact g);subst hc;rw[decide_eq_true g];right;have:=q _ z1.drop;rw[AK]at this;exact this
 .have hc:b≠[]:=λh=>g (by rw[hb,h];rfl)
  rw[decide_eq_false g];right;refine⟨_,rfl,?_⟩;left;refine⟨rfl,?_⟩;left;have z2:=z1.drop;refine F0 (z2.get pl) ?_;refine C0 (xs:=vs) nofun (λD ys H=>ys=((b.take ys.length).map (tT n)).map v6/\Sep (pt D (wl ys)::(G++F)) H) (λD ys H hI=>aP.of (hI.2.get (.t pl))) (λD hD=>⟨rfl,z2.new (o:=wl []) hD⟩) (λD ys x H hx hI=>?_) (λD ys H hly hI=>?_)
  .obtain⟨e1,z3⟩:=hI;obtain⟨i,ei,hi2⟩:=a.get hx;have him:=dl ei;have hyl:=(sK.mp hx).1;have hwt:=yR (n:=n) him;right;refine hi (k:=k-1) (G:=pt D (wl ys)::G) nofun (ok.2 i him) nofun hi2 z3 λH4 z4=>?_
   refine oB.mk z4.at nofun ⟨?_,z4.set rfl⟩;rw[db,gt,take_succ,ei,ge,ge,<-e1]
   rfl
  .obtain⟨e1,z3⟩:=hI;rw[hly,hb,take_of_length_le (re _)]at e1;subst e1;have hT:=E8 hc (λi hi=>ok.2 i hi);have hL:=jJ (n:=n) (b:=b);have hJ:(Txt.join t4 (b.map (tT n))).length+4=(oj n b).length:=by
    rw[bX,bX,hT];simp
   have hS:((b.map (tT n)).map (·.length)).sum+(b.map (tT n)).length<=1000000:=by
    have key:∀ c:List Itm,(∀ i ∈ c,gb n i)->((c.map (tT n)).map (·.length)).sum+c.length=((c.map (aK n)).map az).sum:=λc=>by
     induction c with
     |nil=>intro _;rfl
     |cons i r ih=>
      intro h;have h1:=ih λj hj=>h j (f8 _ hj)
      have h2:(tT n i).length+1=az (aK n i):=by
       rw[<-gi (xY (h i lv))];show(Txt.join bM (aK n i)).length+1=_;rw[show Txt.join bM (aK n i)=Str.join bM (aK n i) from StrLaws.glued_eq_join _ _]
      simp only[map_cons,sum_cons,length_cons]
      omega
    have h1:=key b λi hi=>ok.2 i hi
    have h2:=yt (l:=b.map (aK n));have h3:az (aL (b.map (aK n)))+4=az (dQ n b):=by
     show _=az (ij::(aL _++[cD]));rw[aa,au,aa,show(ij).length=1 by decide+kernel,show(cD).length=1 by decide+kernel,show az []=0 from rfl]
     omega
    rw[cr]
    omega
   left;refine eK (G:=⟨tab,R,ae tab R (k-1),true⟩) (zs:=b.map (tT n)) z3.at hS (by decide+kernel) ?_;have e3:(Str.ofString " ; ")=t4:=rfl;rw[e3];left;refine⟨by rw[show(Str.ofString "( ").length=2 by decide+kernel];omega,?_⟩;left;refine⟨by rw[aq,show(Str.ofString "( ").length=2 by decide+kernel,show(Str.ofString " )").length=2 by decide+kernel];omega,?_⟩;have e4:(Str.ofString "( "++Txt.join t4 (b.map (tT n)))++Str.ofString " )"=oj n b:=PyProof.Rows.ext_toList (by
    rw[hT,gC,gC,show(Str.ofString "( ").cps.toList=[40,32] by decide+kernel,show(Str.ofString " )").cps.toList=[32,41] by decide+kernel])
   rw[e4];exact q _ z3.drop
def wL (ro:Ro K R):∀ n,DB R n
 |0=>rg (uZ ro λm e=>absurd e nofun)
 |n+1=>rg (uZ ro λm e=>by cases e;exact wL ro n)
end
abbrev LsOk (R:Rt)(n:Nat):Prop:=∀ {k:Nat}{F G Δ Δ':List ai}{l l':Addr}{vs us:List V}{b:List Itm}{H:Hp}{Q:VK}{E:XK},2*n+3<=k->zZ n b->aw (pt l (wl vs)) (G++F) Δ->d8 (j8 R F n) vs b->aw (pt l' (wl us)) (G++F) Δ'->d8 (eP F n) us b->Sep (G++F) H->(∀ H',Sep (G++F) H'->Q (.bl true) H')->ae tab R k 70 [ut l,ut l'] H Q E
abbrev BA (R:Rt)(n:Nat):Prop:=∀ {k:Nat}{F G:List ai}{v u:V}{i:Itm}{H:Hp}{Q:VK}{E:XK},2*n+2<=k->gb n i->j8 R F n v i->eP F n u i->Sep (G++F) H->(∀ H',Sep (G++F) H'->Q (.bl true) H')->ae tab R k 71 [v,u] H Q E
def xq (r:Rw):tab.oc.contains r.cl=true/\tab.sub.lookup (r.cl,6)=some true:=by
 cases r with
 |lg w=>cases w<;>exact⟨rfl,rfl⟩
 |sp s=>cases s<;>exact⟨rfl,rfl⟩
 |hop n o=>exact⟨rfl,rfl⟩
def lL {b:Addr}(h1:H a=some (wn xs))(h2:H b=some (wn xs))(hf:∀ v ∈ xs,aE v=true):eZ K H 2 (ut a) (ut b) true:=by
 have z:=eZ.tt (K:=K) (n:=0) (e:=λ_=>true) (a5.of h1) (a5.of h2) (λj x y e1 e2=>by
  rw[e1]at e2;cases e2;have f:=hf x (dl e1);have z:=eZ.flat (K:=K) (H:=H) (n:=1) f f
  rwa [f9 f]at z)
 rwa [show((List.range (min xs.length xs.length)).all (λ_=>true)&&xs.length ==xs.length)=true by simp]at z
section
variable {F G:List ai}{v:V}{n:Nat}
def vw (ro:Ro K R)(ih:∀ m,n=m+1->LsOk R m):BA R n:=by
 intro k F G v u i H Q E hk ok hi hj z q;delta dU;cases i with
 |row r=>
  obtain⟨t,s,rfl,m1,m2⟩:∃ t s,u=ut t/\tu t [v6 "deed",ut s] ∈ F/\tu s r.tl ∈ F:=by cases n<;>exact hj
  obtain⟨d,rfl,m⟩:∃ d,v=ut d/\yn R d r ∈ F:=by cases n<;>exact hi
  have ok':r.ok:=by cases n<;>exact ok
  have e:=fj m1 z;obtain⟨x,fs,ed⟩:=FI m z;obtain⟨o1,o2⟩:=xq r;obtain⟨fn,h1,h2,h3⟩:=nO (R:=R) r ok';obtain⟨Δ,pl⟩:=aI m;right;refine aV e rfl ?_;right;refine cJ ed o1 o2 ?_;right;refine jf (xK r) z (ah pl) ?_ h1 ?_
  .cases r with
   |lg w=>rfl
   |sp s=>cases s<;>rfl
   |hop n o=>rfl
  left;refine g9 (vs':=[ut d]) (by show _::([]++dflt _ _ 1)=_;rw[h2];rfl) ?_;refine h3 nofun z (ah pl) (λp H7 z7=>?_);right;refine aV (fj (G:=_::G) m1 z7) rfl ?_;right;refine fK (O:=pt p _::(G++F)) nofun ok' (Sep.Ha (fj (G:=_::G) m2 z7) z7) λp2 H8 z8=>?_
  refine jN (n:=2) (c:=true) (yh (n:=0) (z8.get .k2) z8.at (Rw.zh r)) (by decide) ((z8.pull .k2).ne) ?_;exact q _ z8.drop.drop.drop
 |dO w=>
  obtain⟨t,rfl,m1⟩:∃ t,u=ut t/\tu t [v6 "do",v6 w] ∈ F:=by cases n<;>exact hj
  obtain⟨d,x,rfl,m⟩:∃ d dx,v=ut d/\pt d (wp (R.cad 13) dx [("called",v6 w)]) ∈ F:=by cases n<;>exact hi
  have e:=fj m1 z;have ed:=fz m z;right;refine aV e rfl ?_;right;refine aV e rfl ?_;right;refine cJ ed rfl rfl ?_;right;refine⟨_,13,_,_,_,rfl,ed,rfl,rfl,?_⟩;right;delta kA;right;refine aj ed rfl rfl rfl ?_;right;rename_i p1 H1 z1;refine aV (fj (G:=_::G) m1 z1) rfl ?_;right;rename_i p2 H2 z2;refine jN (n:=2) (c:=true) (lL (z2.get .k1) z2.at (λv hv=>by
   simp only[lw,not_mem_nil,or_false]at hv;rcases hv with rfl|rfl<;>rfl)) (by decide) ((z2.pull .k1).ne) ?_
  exact q _ z2.drop.drop
 |tms m b=>
  cases n with
  |zero=>exact hi.elim
  |succ n=>
   obtain⟨t,l',us,rfl,m1,m2,a'⟩:=hj;obtain⟨d,x,l,vs,rfl,m3,m4,a⟩:=hi;obtain⟨Δ',pl'⟩:=aI m2;have e:=fj m1 z;have ed:=fz m3 z;right;refine aV e rfl ?_;right;refine aV e rfl ?_;right;refine aV e rfl ?_;right;refine cJ ed rfl rfl ?_;right;refine⟨_,14,_,_,_,rfl,ed,rfl,rfl,?_⟩;right;delta c5;right;refine aj ed rfl rfl rfl ?_;right;refine aj ed rfl rfl rfl ?_;right;refine aU z (fz m4 z) λp1 H1 z1=>?_
   right;rename_i p2 H2 z2;refine Fc z2 z2.at (λh=>absurd (show 2=3 from h.2) (by decide)) λp3 H3 z3=>?_
   right;refine aV (fj (G:=_::_::_::G) m1 z3) rfl ?_;right;rename_i p4 H4 z4;refine fL (n:=2) (c:=true) (lL (xs:=[v6 (Str.ofString "times"),v0 m]) (z4.get .k1) z4.at (λv hv=>by
    simp only[lw,not_mem_nil,or_false]at hv;rcases hv with rfl|rfl<;>rfl)) (by decide) ((z4.pull .k1).ne) ?_
   left;refine aD rfl ?_;have z5:Sep (G++F) H4:=z4.drop.drop.drop.drop;have ed:=fz m3 z5;right;refine⟨_,14,_,_,_,rfl,ed,rfl,rfl,?_⟩;right;delta c5;right;refine aj ed rfl rfl rfl ?_;right;refine aj ed rfl rfl rfl ?_;right;refine aU z5 (fz m4 z5) λp1 H5 z6=>?_
   right;rename_i p2 H6 z7;refine aV (fj (G:=_::_::G) m1 z7) rfl ?_;right;exact ih n rfl (G:=pt p2 _::pt p1 _::G) nofun ok.2 .k1 a (.t (.t (ah pl'))) a' z7 λH8 z8=>q _ z8.drop.drop
 |whn o b c=>
  cases n with
  |zero=>exact hi.elim
  |succ n=>
   obtain⟨t,l1,us1,l2,us2,rfl,m1,⟨m2,a1⟩,m2',a2⟩:=hj;obtain⟨d,x,l3,vs1,l4,vs2,rfl,m3,⟨m4,b1⟩,m5,b2⟩:=hi;obtain⟨Δ1,pl1⟩:=aI m2;obtain⟨Δ2,pl2⟩:=aI m2';have e:=fj m1 z;have ed:=fz m3 z;right;refine aV e rfl ?_;right;refine aV e rfl ?_;right;refine aV e rfl ?_;right;refine cJ ed rfl rfl ?_;right;refine⟨_,15,_,_,_,rfl,ed,rfl,rfl,?_⟩;right;delta bW;right;refine aj ed rfl rfl rfl ?_;right;refine aj ed rfl rfl rfl ?_;right;refine aU z (fz m4 z) λp1 H1 z1=>?_
   right;refine aj (fz (G:=_::G) m3 z1) rfl rfl rfl ?_;right;refine aU z1 (fz (G:=_::G) m5 z1) λp0 H1 z1=>?_
   right;rename_i p2 H2 z2;refine Fc z2 z2.at (λh=>absurd (show 2=4 from h.2) (by decide)) λp3 H3 z3=>?_
   right;refine aV (fj (G:=_::_::_::_::G) m1 z3) rfl ?_;right;rename_i p4 H4 z4;refine fL (n:=2) (c:=true) (lL (xs:=[v6 (Str.ofString "when"),v0 o]) (z4.get .k1) z4.at (λv hv=>by
    simp only[lw,not_mem_nil,or_false]at hv;rcases hv with rfl|rfl<;>rfl)) (by decide) ((z4.pull .k1).ne) ?_
   left;refine aD rfl ?_;have z5:Sep (G++F) H4:=z4.drop.drop.drop.drop.drop;clear z1 z2 z3 z4;have ed:=fz m3 z5;right;refine⟨_,15,_,_,_,rfl,ed,rfl,rfl,?_⟩;right;delta bW;right;refine aj ed rfl rfl rfl ?_;right;refine aj ed rfl rfl rfl ?_;right;refine aU z5 (fz m4 z5) λp1 H5 z6=>?_
   right;refine aj (fz (G:=_::G) m3 z6) rfl rfl rfl ?_;right;refine aU z6 (fz (G:=_::G) m5 z6) λp0 H5 z6=>?_
   right;rename_i p2 H6 z7;refine aV (fj (G:=_::_::_::G) m1 z7) rfl ?_;right;refine ih n rfl (G:=pt p2 _::pt p0 _::pt p1 _::G) nofun ok.2.1 .k2 b1 (.t (.t (.t (ah pl1)))) a1 z7 λH8 z8=>?_
   have z5:Sep (G++F) H8:=z8.drop.drop.drop;clear z6 z7 z8;have ed:=fz m3 z5;right;refine⟨_,15,_,_,_,rfl,ed,rfl,rfl,?_⟩;right;delta bW;right;refine aj ed rfl rfl rfl ?_;right;refine aj ed rfl rfl rfl ?_;right;refine aU z5 (fz m4 z5) λp1 H5 z6=>?_
   right;refine aj (fz (G:=_::G) m3 z6) rfl rfl rfl ?_;right;refine aU z6 (fz (G:=_::G) m5 z6) λp0 H5 z6=>?_
   right;rename_i p2 H6 z7;refine aV (fj (G:=_::_::_::G) m1 z7) rfl ?_;right;exact ih n rfl (G:=pt p2 _::pt p0 _::pt p1 _::G) nofun ok.2.2 .k1 b2 (.t (.t (.t (ah pl2)))) a2 z7 λH8 z8=>q _ z8.drop.drop.drop
def Bw (hi:BA R n):LsOk R n:=by
 intro k F G Δ Δ' l l' vs us b H Q E hk ok pl a pl' a' z q;delta kU;have e1:=z.get pl;have e2:=z.get pl';have h1:=a.1;have h2:=a'.1;have hl:=ok.1;right;refine jO (Cg e1) rfl ?_;right;refine c6 e1 ?_;right;refine c6 e2 ?_;right;refine aG (by show((vs.length:Int) ==(us.length:Int))=true;rw[h1,h2];exact beq_self_eq_true _) ?_;right;refine c6 e2 ?_;right;rw[s0];refine qS (n:=us.length) nofun (λD ys H=>ys=sw ys.length (.bl true)/\Sep (pt D (wl ys)::(G++F)) H) (λD hD=>⟨rfl,z.new (o:=wl []) hD⟩) (λD ys H hy hI=>?_) (λD ys H hly hI=>?_)
 .obtain⟨e,z1⟩:=hI;have ev:vs[ys.length]? =some (vs[ys.length]'nofun):=li _;generalize vs[ys.length]'nofun=v at ev;obtain⟨i,ei,ii⟩:=a.get ev;have eu:us[ys.length]? =some (us[ys.length]'nofun):=li _;generalize us[ys.length]'nofun=u at eu;obtain⟨i',ei',jj⟩:=a'.get eu;rw[ei]at ei';cases ei';right;refine aT (z1.get (.t pl)) (nz ev) ?_;right;refine aT (z1.get (.t pl')) (nz eu) ?_;right;refine hi (k:=k-1) (G:=pt D _::G) nofun (ok.2 i (dl ei)) ii jj z1 λH2 z2=>?_
  refine oB.mk z2.at nofun ⟨?_,z2.set rfl⟩;rw[db,gt,List.replicate_succ',<-e]
 .obtain⟨e,z1⟩:=hI;left;refine pQ (bs:=sw ys.length true) (K:=R.K) rfl (by rw[z1.at,e,List.map_replicate,List.length_replicate]) ?_;rw[show(sw ys.length true).all id=true by rw[all_eq_true];intro x hx;rw[List.eq_of_mem_replicate hx];rfl];exact q _ z1.drop
def vy (ro:Ro K R):∀ n,LsOk R n
 |0=>Bw (vw ro λm e=>absurd e nofun)
 |n+1=>Bw (vw ro λm e=>by cases e;exact vy ro n)
end
section
variable {ws post:List Str}{n:Nat}{x c:Str}
end
abbrev iI:Nat->Int
 |0=>1000
 |n+1=>100*iI n
abbrev cst:Nat->Int
 |0=>15
 |n+1=>15+2*iI n
def lG:∀ n,1000<=iI n
 |0=>by show(1000:Int)<=1000;omega
 |n+1=>by have:=lG n;show 1000<=100*iI n;omega
def rG (n:Nat):15<=cst n/\1+30*cst n<=iI n:=by
 cases n with
 |zero=>exact⟨by show(15:Int)<=15;omega,by show(1:Int)+30*15<=1000;omega⟩
 |succ n=>have:=lG n;exact⟨by show 15<=15+2*iI n;omega,by show 1+30*(15+2*iI n)<=100*iI n;omega⟩
def mz:az (aL (l++[y]))<=az (aL l)+az y+2:=by
 rw[et,au]
 split
 .omega
 .rw[aa,show(cR).length=1 by decide+kernel];omega
def yf (ok:r.ok):az r.zs<=50:=by
 have nm:∀ b:Bn,b.nm.length<=5:=λb=>by cases b<;>decide+kernel
 have nl:∀ {i:Int},i.natAbs<=1000000000->(nw i).length<=11:=λh=>(jR h).1
 have t0:az []=0:=rfl;cases r with
 |lg w=>cases w<;>decide+kernel
 |sp s=>
  cases s with
  |set b i=>
   have ok: -1000000000<=i/\i<=1000000000:=ok;have h1:=nm b;have h2:=nl (i:=i) nofun;show az [("set":Str),b.nm,nw i]<=50;rw[aa,aa,aa,show("set":Str).length=3 by decide+kernel,t0]
   omega
  |add b i=>
   have ok: -1000000000<=i/\i<=1000000000:=ok;have h1:=nm b;have h2:=nl (i:=i) nofun;show az [("add":Str),b.nm,nw i]<=50;rw[aa,aa,aa,show("add":Str).length=3 by decide+kernel,t0]
   omega
  |take b c=>
   have h1:=nm b;have h2:=nm c;show az [("take":Str),b.nm,c.nm]<=50;rw[aa,aa,aa,show("take":Str).length=4 by decide+kernel,t0]
   omega
  |read b=>
   have h1:=nm b;show az [("read":Str),b.nm]<=50;rw[aa,aa,show("read":Str).length=4 by decide+kernel,t0]
   omega
  |write b=>
   have h1:=nm b;show az [("write":Str),b.nm]<=50;rw[aa,aa,show("write":Str).length=5 by decide+kernel,t0]
   omega
 |hop n o=>
  have ok:(0<=n/\n<=24)/\CJ o:=ok;have h1:=nl (i:=n) nofun;cases o with
  |none=>
   show az [("hop":Str),nw n]<=50;rw[aa,aa,show("hop":Str).length=3 by decide+kernel,t0]
   omega
  |some i=>
   have ho:i=0\/i=1:=ok.2;have h2:=nl (i:=i) nofun;show az [("hop":Str),nw n,("if":Str),nw i]<=50;rw[aa,aa,aa,aa,show("hop":Str).length=3 by decide+kernel,show("if":Str).length=2 by decide+kernel,t0]
   omega
def AF:∀ v ∈ [v6 "a",v6 "do",v6 "and",v6 "else",v6 "when",v6 "times",v6 "copy",v6 "set",v6 "if",v6 "zzzzzzzz",v6 "hop",v6 "here"],∃ w:Str,v=v6 w/\Nm w:=by
 intro v hv;simp only[lw,not_mem_nil,or_false]at hv;rcases hv with rfl|rfl|rfl|rfl|rfl|rfl|rfl|rfl|rfl|rfl|rfl|rfl<;>exact⟨_,rfl,qb (by decide+kernel)⟩
variable {zs:List Str}
def Ft:(Str.join Str.empty zs).cps.toList=(zs.map λz=>z.cps.toList).flatten:=by
 induction zs with
 |nil=>rfl
 |cons x r ih=>
  cases r with
  |nil=>show x.cps.toList=_;simp
  |cons y r=>
   rw[join_cons,ih];simp[Str.empty]
def y6 (cs:List Nat):(Txt.join (Str.ofString "") (cs.map λc=>(⟨#[c]⟩:Str))).cps.toList=cs:=by
 have e:Txt.join (Str.ofString "") (cs.map λc=>(⟨#[c]⟩:Str))=Str.join Str.empty (cs.map λc=>(⟨#[c]⟩:Str)):=(StrLaws.glued_eq_join _ _).trans (by rw[show(Str.ofString "")=Str.empty by decide+kernel]);rw[e,Ft]
 induction cs with
 |nil=>rfl
 |cons c r ih=>
  have ih:=ih ((StrLaws.glued_eq_join _ _).trans (by rw[show(Str.ofString "")=Str.empty by decide+kernel]));rw[map_cons,map_cons,flatten_cons,ih]
  rfl
section
variable {h:Addr}{m:Int}
def zg (hk:2<=k)(s:Sep (hand h m::O) H)(hm:m<=1099510000000)(q:∀ w H',Nm w->Sep (hand h (m+10)::O) H'->Q (v6 w) H'):ae tab R k 65 [ut h] H Q E:=by
 delta iA;walk_at "gd";rename_i p1 H1 z1 r1 H2 a0 a1 z2;refine aN (λg=>?_) (λg=>?_)
 .walk_at "gd";rename_i r2 H3 b0 b1 z3;obtain⟨v,ev,w,rfl,hw⟩:=gu b0 (by simpa using b1) AF;refine aT (by grind) ev ?_;exact q w _ hw (ao (z3.sub (Γ':=hand h (m+1+1)::O) (.cons .e (.drop .refl))) nofun)
 .have z3:Sep (hand h (m+1)::O) H2:=z2.sub (.cons .e (.drop .refl));clear z1 z2 s;right;refine⟨_,rfl,?_⟩;walk_at "gd";rename_i r2 H3 b0 b1 z4;refine qS (n:=(1+r2).toNat) nofun (λD ys H=>(∃ cs:List Nat,ys=(cs.map λc=>(⟨#[c]⟩:Str)).map v6/\∀ c ∈ cs,97<=c/\c<=122)/\Sep (pt D (wl ys)::hand h (m+2+(ys.length:Int))::O) H) (λD hD=>⟨⟨[],rfl,λc hc=>nomatch hc⟩,?_⟩) (λD ys H hy hI=>?_) (λD ys H hly hI=>?_)
  .exact((ao ((z4.new (o:=wl []) hD).pull .k1) (by simp;omega)).pull .k1)
  .obtain⟨⟨cs,rfl,hcs⟩,z5⟩:=hI;have z6:Sep (hand h (m+2+(cs.length:Int))::pt D (wl ((cs.map λc=>(⟨#[c]⟩:Str)).map v6))::O) H:=ao (z5.pull .k1) (by simp);rw[cr,cr]at hy;right;refine xh nofun z6 nofun (by decide) (by decide) λd H6 d0 d1 z7=>?_
   have ec:fH ("abcdefghijklmnopqrstuvwxyz":Str).cps.toList d=some (97+d.toNat):=by
    rw[GL];rcases(by omega:d=0\/d=1\/d=2\/d=3\/d=4\/d=5\/d=6\/d=7\/d=8\/d=9\/d=10\/d=11\/d=12\/d=13\/d=14\/d=15\/d=16\/d=17\/d=18\/d=19\/d=20\/d=21\/d=22\/d=23\/d=24\/d=25) with rfl|rfl|rfl|rfl|rfl|rfl|rfl|rfl|rfl|rfl|rfl|rfl|rfl|rfl|rfl|rfl|rfl|rfl|rfl|rfl|rfl|rfl|rfl|rfl|rfl|rfl<;>rfl
   refine Fb (c:=97+d.toNat) (by decide+kernel) ec ?_;refine oB.mk (z7.get .k1) (by rw[cr,cr];omega) ⟨⟨cs++[97+d.toNat],by simp,λc hc=>?_⟩,?_⟩
   .rcases mem_append.mp hc with hc|hc
    .exact hcs c hc
    .rw[mem_singleton.mp hc];omega
   .have z8:=(z7.pull .k1).set (o':=wl ((cs.map λc=>(⟨#[c]⟩:Str)).map v6++[v6 ⟨#[97+d.toNat]⟩])) rfl;exact(ao (z8.pull .k1) (by simp;omega)).pull .k1
  .obtain⟨⟨cs,rfl,hcs⟩,z5⟩:=hI;rw[cr,cr]at hly;left;have one:∀ l:List Nat,((l.map λc=>(⟨#[c]⟩:Str)).map (·.length)).sum=l.length:=λl=>by
    induction l with
    |nil=>rfl
    |cons a r ih=>rw[map_cons,map_cons,sum_cons,ih,length_cons];show 1+r.length=_;omega
   refine eK (G:=⟨tab,R,ae tab R (k-1),true⟩) z5.at (by rw[one,cr];omega) (by decide+kernel) ?_;have e:=y6 cs;generalize Txt.join (Str.ofString "") (cs.map λc=>(⟨#[c]⟩:Str))=w at e⊢;refine q w _ ⟨⟨by rw[bX,e];omega,by rw[bX,e];omega⟩,λc hc=>hcs c (by rw[e]at hc;exact hc)⟩ (ao z5.drop (by rw[cr,cr];omega))
end
local macro_rules| `(tactic|walk_at "sx")=>`(tactic|((with_reducible (first|refine' dx_h ?s ?p ?_|refine' dx_t ?s ?p ?_|refine' dx_l ?s ?p ?_|refine' dx_w ?s ?p ?_|refine' dx_s ?s ?p ?_|refine' dx_m ?s ?p ?_));(case s=>with_reducible assumption);(case p=>symm)))
local macro_rules| `(tactic|walk_at "sy")=>`(tactic|((with_reducible (first|refine' ds_h ?s ?p (λH hs=>?_)|refine' ds_t ?s ?p (λH hs=>?_)|refine' ds_l ?s ?p (λH hs=>?_)|refine' ds_w ?s ?p (λH hs=>?_)|refine' ds_s ?s ?p (λH hs=>?_)|refine' ds_m ?s ?p (λH hs=>?_)));(case s=>with_reducible assumption);(case p=>ac_rfl)))
local macro_rules| `(tactic|walk_at "wd")=>`(tactic|(walk_at "w";repeat(first|(walk_at "sx";walk_at "w")|(walk_at "sy";walk_at "w")|(walk_at "st";walk_at "w")|(refine rp ?_;walk_at "w"))))
def Fg {r:Int}(h0:0<=r)(h1:r<6):∃ wd:Wd,fH [v6 "copy",v6 "fill",v6 "seek",v6 "match",v6 "shift",v6 "turn"] r=some (v6 wd.s):=by
 have:r=0\/r=1\/r=2\/r=3\/r=4\/r=5:=by omega
 rcases this with rfl|rfl|rfl|rfl|rfl|rfl
 .exact⟨.copy,rfl⟩
 .exact⟨.fill,rfl⟩
 .exact⟨.seek,rfl⟩
 .exact⟨.mtch,rfl⟩
 .exact⟨.shift,rfl⟩
 .exact⟨.turn,rfl⟩
def DR {r:Int}(h0:0<=r)(h1:r<3):∃ o:Option Int,fH [wf,v0 0,v0 1] r=some (oV o)/\CJ o:=by
 rcases(by omega:r=0\/r=1\/r=2) with rfl|rfl|rfl
 .exact⟨none,rfl,True.intro⟩
 .exact⟨some 0,rfl,.inl rfl⟩
 .exact⟨some 1,rfl,.inr rfl⟩
abbrev rC (v:V):Prop:=∃ b:Bn,v=v6 b.nm
def qT {m sz:Int}(hk:2<=k)(s:Sep (hand h m::O) H)(hm:m<=1099510000000)(h0:0<=sz)(h1:sz<=60)(q:∀ t r H',Rw.ok r->Sep (tu t r.tl::hand h (m+10)::O) H'->Q (ut t) H'):ae tab R k 63 [ut h,v0 sz] H Q E:=by
 delta iy;walk_at "gd";rename_i wy H1 wy0 wy1 hs1 p1 H2 hs2 r2 H3 r20 r21 hs3;obtain⟨b,e2⟩:=BI r20 r21;refine aT (by grind) e2 ?_;clear s hs1 hs2;right;refine aN (λg0=>?_) (λg0=>?_)
 .right;rename_i l4 H4 hs4;obtain⟨wd,e3⟩:=Fg wy0 g0;refine aT (by grind) e3 ?_;right;rename_i t H5 hs5;have z6:Sep (tu t (Rw.tl (.lg wd))::_) _:=hs5.toT;exact q t (.lg wd) _ True.intro ((ao (n:=m+10) (z6.pull (A:=hand h _) (by symm)) nofun).sub (by ac_nf))
 right;refine aN (λg1=>?_) (λg1=>?_)
 .walk_at "gd";rename_i l4 H4 hs4 r5 H5 r50 r51 hs5;obtain⟨v,e3,b3,rfl⟩:=gu (P:=rC) (xs:=[v6 "here",v6 "there",v6 "left",v6 b.nm]) (r:=r5) r50 (by simpa using r51) (JN ⟨.h,rfl⟩ ⟨.t,rfl⟩ ⟨.l,rfl⟩ ⟨b,rfl⟩);refine aT (by grind) e3 ?_;walk_at "gd";rename_i r6 H6 r60 r61 hs6 r7 H7 r70 r71 hs7 r8 H8 r80 r81 hs8 r9 H9 r90 r91 hs9 l10 H10 hs10;obtain⟨v,e4,i,rfl,i0,i1⟩:=gu (xs:=[v0 r7,v0 (r8-2),v0 (10 ^ Int.toNat 9-r9)]) (P:=inR (-1000000000) 1000000000) (r:=r6 / 3) nofun (by simp;omega) (G4 (.mk nofun nofun) (.mk nofun nofun) (.mk (by rw[w9];omega) (by rw[w9];omega)));refine aT (by grind) e4 ?_;right;rename_i t H11 hs11;have z6:Sep (tu t (Rw.tl (.sp (.set b3 i)))::_) _:=hs11.toT;exact q t (.sp (.set b3 i)) _ ⟨i0,i1⟩ ((ao (n:=m+10) (z6.pull (A:=hand h _) (by symm)) nofun).sub (by ac_nf))
 right;refine cN (λg2=>?_) (λg2=>?_)
 .walk_at "gd";rename_i r6 H6 r60 r61 hs6 r7 H7 r70 r71 hs7 r8 H8 r80 r81 hs8 l10 H10 hs10;obtain⟨v,e4,i,rfl,i0,i1⟩:=gu (xs:=[v0 (r7-3),v0 r8,v0 (-(10 ^ Int.toNat 9))]) (P:=inR (-1000000000) 1000000000) (r:=r6 / 3) nofun (by simp;omega) (G4 (.mk nofun nofun) (.mk nofun nofun) (.mk (by rw[w9];omega) (by rw[w9];omega)));refine aT (by grind) e4 ?_;right;rename_i t H11 hs11;have z6:Sep (tu t (Rw.tl (.sp (.add b i)))::_) _:=hs11.toT;exact q t (.sp (.add b i)) _ ⟨i0,i1⟩ ((ao (n:=m+10) (z6.pull (A:=hand h _) (by symm)) nofun).sub (by ac_nf))
 right;refine cN (λg3=>?_) (λg3=>?_)
 .walk_at "gd";rename_i r6 H6 r60 r61 hs6;obtain⟨c,e3⟩:=BI r60 r61;refine aT (by grind) e3 ?_;right;rename_i t H11 hs11;have z6:Sep (tu t (Rw.tl (.sp (.take b c)))::_) _:=hs11.toT;exact q t (.sp (.take b c)) _ True.intro ((ao (n:=m+10) (z6.pull (A:=hand h _) (by symm)) nofun).sub (by ac_nf))
 right;refine aN (λg4=>?_) (λg4=>?_)
 .right;rename_i l4 H4 hs4;rcases(by omega:wy=11\/wy=12) with rfl|rfl
  .right;rename_i t H11 hs11;have z6:Sep (tu t (Rw.tl (.sp (.read b)))::_) _:=hs11.toT;exact q t (.sp (.read b)) _ True.intro ((ao (n:=m+10) (z6.pull (A:=hand h _) (by symm)) nofun).sub (by ac_nf))
  .right;rename_i t H11 hs11;have z6:Sep (tu t (Rw.tl (.sp (.write b)))::_) _:=hs11.toT;exact q t (.sp (.write b)) _ True.intro ((ao (n:=m+10) (z6.pull (A:=hand h _) (by symm)) nofun).sub (by ac_nf))
 walk_at "gd";rename_i r6 H6 r60 r61 hs6 l7 H7 hs7 r8 H8 r80 r81 hs8;obtain⟨o,e3,ho⟩:=DR r80 r81;refine aT (by grind) e3 ?_;right;rename_i t H11 hs11;have z6:Sep (tu t (Rw.tl (.hop r6 o))::_) _:=hs11.toT;exact q t (.hop r6 o) _ ⟨⟨by omega,by omega⟩,ho⟩ ((ao (n:=m+10) (z6.pull (A:=hand h _) (by symm)) nofun).sub (by ac_nf))
section
variable {F G:List ai}{v:V}{n:Nat}{h rm:Addr}{m r:Int}
abbrev Du (R:Rt)(n:Nat):Prop:=∀ {k:Nat}{F G:List ai}{h rm:Addr}{m r:Int}{H:Hp}{Q:VK}{E:XK},2*n+5<=k->0<=r->r<=30->m+iI n<=1099000000000->Sep (hand h m::pt rm (wl [v0 r])::(G++F)) H->
 (∀ l b vs r' Δ H',0<=r'->r'<=r->zZ n b->b.length<=5->(az (aL (b.map (aK n))):Int)<=60*(r-r')->pt l (wl vs) ∈ Δ++F->d8 (eP (Δ++F) n) vs b->Sep (hand h (m+iI n)::pt rm (wl [v0 r'])::(G++(Δ++F))) H'->Q (ut l) H')->ae tab R k 66 [ut h,v0 (4-(n:Int)),ut rm] H Q E
abbrev E5 (R:Rt)(n:Nat):Prop:=∀ {k:Nat}{F G:List ai}{h rm:Addr}{m r:Int}{H:Hp}{Q:VK}{E:XK},2*n+4<=k->0<=r->r<=30->m+cst n<=1099000000000->Sep (hand h m::pt rm (wl [v0 r])::(G++F)) H->
 (∀ v i r' Δ H',0<=r'->r'<=r->gb n i->(az (aK n i):Int)+2<=60*(1+r-r')->eP (Δ++F) n v i->Sep (hand h (m+cst n)::pt rm (wl [v0 r'])::(G++(Δ++F))) H'->Q v H')->ae tab R k 67 [ut h,v0 (4-(n:Int)),ut rm] H Q E
def Cz (n:Nat):15<=cst n:=(rG n).1
def jm:az (dQ n b)=az (aL (b.map (aK n)))+4:=by
 show az (ij::(aL _++[cD]))=_;rw[aa,au,aa,show(ij).length=1 by decide+kernel,show(cD).length=1 by decide+kernel,show az []=0 from rfl]
 omega
def yH {c:List Itm}:az (kF (c.map (aK n)))<=az (aL (c.map (aK n)))+9:=by
 unfold kF
 split
 .exact Nat.zero_le _
 .rw[aa,jm,show(sY).length=4 by decide+kernel];omega
def dy {L:List ai}{P:List ai}(z:Sep (P++(L++(G++(Δ++F)))) H):Sep (P++(G++((L++Δ)++F))) H:=by
 have z1:=Sep.mv (P:=P) (Δ:=L) (L:=G) (O:=Δ++F) z;rw[lf];exact z1
def rF (ih:∀ p,n=p+1->Du R p):E5 R n:=by
 intro k F G h rm m r H Q E hk hr0 hr1 hm z q;have h15:=Cz n;delta cb;walk_at "gd";rename_i way H1 w0 w1 z1;have deed:∀ {H:Hp},Sep (hand h (m+1)::pt rm (wl [v0 r])::(G++F)) H->ae tab R (k-1) 63 [ut h,v0 60] H (λy H2=>mG [v6 (Str.ofString "deed"),y] H2 Q) E:=λ{H} z=>by
  refine qT nofun z nofun (by decide) (by decide) λt rr H2 okr z2=>?_
  refine xW z2 (by walk_at "ar") λp H3 z3=>?_
  have ht:=yf okr;refine q (ut p) (.row rr) r [tu p [v6 (Str.ofString "deed"),ut t],tu t rr.tl] H3 hr0 (Int.le_refl _) (by cases n<;>exact okr) (by
   have:az (aK n (.row rr))=az rr.zs:=by cases n<;>rfl
   rw[this];omega) (by cases n<;>exact⟨p,t,rfl,lv,f8 _ lv⟩) ?_
  have z4:=dy (P:=[hand h (m+cst n),pt rm (wl [v0 r])]) (L:=[tu p _,tu t _]) (Δ:=[]) (G:=G) (F:=F) (((ao (z3.toT.sub (Γ':=hand h (m+1+10)::tu p [v6 (Str.ofString "deed"),ut t]::tu t rr.tl::pt rm (wl [v0 r])::(G++F)) (.cons .k2 (.cons .e (.cons .e (.cons .e .refl))))) nofun)).sub (.cons .e (.cons .k2 (.cons .e (.cons .e .refl)))));exact z4
 refine aN (λg=>?_) (λg=>?_)
 .right;exact deed z1
 left;refine bB rfl rfl ?_;left;have go:¬ ((n:Int)=0/\5<way)->wB (fM 2 cb.body) ⟨tab,R,ae tab R (k-1),true⟩ { nx:=λ_ H'=>Q wf H',rt:=Q } (λ_=>E) [some (ut h),some (v0 (4-(n:Int))),some (ut rm),some (v0 way),none] H1:=λhn=>by
  left;refine bB rfl rfl ?_;left;refine cN (λg5=>?_) (λg5=>?_)
  .right;refine zg nofun z1 nofun λw H2 hw z2=>?_
   right;rename_i p H3 z3;refine q (ut p) (.dO w) r [tu p [v6 (Str.ofString "do"),v6 w]] H3 hr0 (Int.le_refl _) (by cases n<;>exact hw) (by
    have:az (aK n (.dO w))=az [uS,w]:=by cases n<;>rfl
    have:=hw.1.2;rw[‹az (aK n (.dO w))=az [uS,w]›,aa,aa,show(uS).length=2 by decide+kernel,show az []=0 from rfl];omega) (by cases n<;>exact⟨p,rfl,lv⟩) ?_
   exact dy (P:=[hand h (m+cst n),pt rm (wl [v0 r])]) (L:=[tu p _]) (Δ:=[]) (G:=G) (F:=F) ((ao (z3.toT.sub (Γ':=hand h (m+1+10)::tu p [v6 (Str.ofString "do"),v6 w]::pt rm (wl [v0 r])::(G++F)) (.cons .k1 (.cons .e (.cons .e .refl)))) nofun).sub (.cons .e (.cons .k1 (.cons .e .refl))))
  cases n with
  |zero=>exact absurd ⟨rfl,by omega⟩ hn
  |succ n=>
   have hcs:cst (n+1)=15+2*iI n:=rfl;have hbp:=lG n;have hdp:4-((n+1:Nat):Int)+1=4-(n:Int):=by omega
   left;refine bB rfl rfl ?_;left;refine cN (λg6=>?_) (λg6=>?_)
   .walk_at "gd";rename_i c H2 c0 c1 z2;rw[hdp];refine ih n rfl (k:=k-1) nofun hr0 hr1 nofun z2 λl b vs r' Δ H3 r0' r1' okb hb5 ht hl al z3=>?_
    right;rename_i p H4 z4;have up:∀ A,A ∈ Δ++F->A ∈ (tu p [v6 (Str.ofString "times"),v0 c,ut l]::Δ)++F:=λA h=>f8 _ h
    have hnw:(nw c).length<=11:=(jR (i:=c) nofun).1;refine q (ut p) (.tms c b) r' (tu p [v6 (Str.ofString "times"),v0 c,ut l]::Δ) H4 r0' r1' ⟨⟨c0,by omega⟩,okb⟩ ?_ ⟨p,l,vs,rfl,lv,up _ hl,al.map λv i=>eP.mono up⟩ ?_
    .show((az (zN::nw c::dQ n b):Nat):Int)+2<=_;rw[aa,aa,jm,show(zN).length=5 by decide+kernel]
     omega
    .exact dy (P:=[hand h (m+cst (n+1)),pt rm (wl [v0 r'])]) (L:=[tu p _]) (Δ:=Δ) (G:=G) (F:=F) ((ao (z4.toT.sub (Γ':=hand h (m+1+1+iI n)::tu p [v6 (Str.ofString "times"),v0 c,ut l]::pt rm (wl [v0 r'])::(G++(Δ++F))) (.cons .k1 (.cons .e (.cons .e .refl)))) nofun).sub (.cons .e (.cons .k1 (.cons .e .refl))))
   .walk_at "gd";rename_i lo H2 z2 oc H3 o0 o1 z3
    -- behind the other block
    have fin:∀ {H:Hp}{lo:Addr}{c:List Itm}{us:List V}{r1:Int}{Δ:List ai},0<=r1->r1<=r->zZ n c->((az (aL (c.map (aK n))):Nat):Int)<=60*(r-r1)->pt lo (wl us) ∈ Δ++F->d8 (eP (Δ++F) n) us c->Sep (hand h (m+3+iI n)::pt rm (wl [v0 r1])::(G++(Δ++F))) H->wB (fM 6 cb.body) ⟨tab,R,ae tab R (k-1),true⟩ { nx:=λ_ H'=>Q wf H',rt:=Q } (λ_=>E) [some (ut h),some (v0 (4-((n+1:Nat):Int))),some (ut rm),some (v0 way),some (ut lo)] H:=by
     intro H lo c us r1 Δ r10 r11 okc htc hlo alc z;walk_at "gd";rename_i on H4 on0 on1 z4;rw[hdp];refine ih n rfl (k:=k-1) nofun r10 nofun nofun z4 λl b vs r' Δ2 H5 r0' r1' okb hb5 ht hl al z5=>?_
     right;rename_i p H6 z6;have up:∀ A,A ∈ Δ2++(Δ++F)->A ∈ (tu p [v6 (Str.ofString "when"),v0 on,ut l,ut lo]::(Δ2++Δ))++F:=λA h=>by
      refine f8 _ ?_;show A ∈ (Δ2++Δ)++F;rw[lf];exact h
     have upr:∀ A,A ∈ Δ++F->A ∈ (tu p [v6 (Str.ofString "when"),v0 on,ut l,ut lo]::(Δ2++Δ))++F:=λA h=>up A (io _ h)
     have hnw:(nw on).length<=11:=(jR (i:=on) nofun).1;refine q (ut p) (.whn on b c) r' _ H6 r0' nofun ⟨by omega,okb,okc⟩ ?_ ⟨p,l,vs,lo,us,rfl,lv,⟨up _ hl,al.map λv i=>eP.mono up⟩,upr _ hlo,alc.map λv i=>eP.mono upr⟩ ?_
     .show((az (pT::nw on::(dQ n b++kF (c.map (aK n)))):Nat):Int)+2<=_;have:=yH (n:=n) (c:=c);rw[aa,aa,au,jm,show(pT).length=4 by decide+kernel]
      omega
     .have z7:=dy (P:=[hand h (m+cst (n+1)),pt rm (wl [v0 r'])]) (L:=[tu p _]) (Δ:=Δ2) (G:=G) (F:=Δ++F) ((ao (z6.toT.sub (Γ':=hand h (m+3+iI n+1+iI n)::tu p [v6 (Str.ofString "when"),v0 on,ut l,ut lo]::pt rm (wl [v0 r'])::(G++(Δ2++(Δ++F)))) (.cons .k1 (.cons .e (.cons .e .refl)))) nofun).sub (.cons .e (.cons .k1 (.cons .e .refl))));simpa using z7
    refine cN (λg7=>?_) (λg7=>?_)
    .right;rw[hdp];refine ih n rfl (k:=k-1) (G:=pt lo (wl [])::G) nofun hr0 hr1 nofun (z3.sub (.cons .e (.cons .k1 (.cons .e .refl)))) λl b vs r' Δ H5 r0' r1' okb hb5 ht hl al z5=>?_
     refine fin r0' r1' okb ht hl al ?_;exact ao (z5.sub (Γ':=hand h (m+1+1+iI n)::pt rm (wl [v0 r'])::(G++(Δ++F))) (.cons .e (.cons .e (.drop .refl)))) nofun
    .refine fin (c:=[]) (us:=[]) (Δ:=[pt lo (wl [])]) hr0 (Int.le_refl _) ⟨by decide,λi hi=>nomatch hi⟩ (by show((0:Nat):Int)<=_;omega) lv .nil ?_;exact dy (P:=[hand h (m+3+iI n),pt rm (wl [v0 r])]) (L:=[pt lo (wl [])]) (Δ:=[]) (G:=G) (F:=F) ((ao (z3.sub (Γ':=hand h (m+1+1)::pt lo (wl [])::pt rm (wl [v0 r])::(G++F)) (.cons .e (.cons .e (.cons .e .refl)))) nofun).sub (.cons .e (.cons .k1 (.cons .e .refl))))
 refine cN (λg4=>?_) (λg4=>?_)
 .left;refine aN (λg5=>?_) (λg5=>?_)
  .right;exact deed z1
  .exact go λhh=>g5 hh.2
 .left;refine aD rfl ?_;exact go λhh=>g4 nofun
def we (hi:E5 R n):Du R n:=by
 intro k F G h rm m r H Q E hk hr0 hr1 hm z q;have hcb:=rG n;delta gk;walk_at "gd";rename_i fd H1 z1 p2 H2 z2 r1 H3 a0 a1 z3;obtain⟨v,ev,M,rfl,M0,M1⟩:∃ v,fH [v0 1,v0 2,v0 3,v0 0,v0 2,v0 5] r1=some v/\inR 0 5 v:=gu a0 (by simpa using a1) (λv hv=>by
  simp only[lw,not_mem_nil,or_false]at hv;rcases hv with rfl|rfl|rfl|rfl|rfl|rfl<;>exact⟨_,rfl,by decide,by decide⟩)
 refine aT (by grind) ev ?_;have z4:Sep (hand h (m+1)::pt rm (wl [v0 r])::pt fd (wl [])::(G++F)) H3:=z3.sub (.cons .e (.cons .k2 (.cons .k1 (.drop .refl))));clear z z1 z2 z3 ev;right;refine eg (n:=M.toNat) (λj U H=>∃ (b:List Itm) (vs:List V) (r':Int) (Δ:List ai) (u4:Option V),U=[some (ut h),some (v0 (4-(n:Int))),some (ut rm),some (ut fd),u4]/\b.length<=j/\(∀ i ∈ b,gb n i)/\d8 (eP (Δ++F) n) vs b/\0<=r'/\r'<=r/\((az (aL (b.map (aK n))):Nat):Int)<=60*(r-r')/\Sep (hand h (m+1+(j:Int)*cst n)::pt rm (wl [v0 r'])::pt fd (wl vs)::(G++(Δ++F))) H) ?_ ?_ ?_
 .exact⟨[],[],r,[],_,rfl,re _,(λi hi=>nomatch hi),.nil,hr0,Int.le_refl _,by show((0:Nat):Int)<=_;omega,ao z4 (by simp)⟩
 .rintro j U H hj ⟨b,vs,r',Δ,u4,rfl,hl,ok,al,r0',r1',ht,z5⟩;have hjc:(j:Int)*cst n<=4*cst n:=Int.mul_le_mul_of_nonneg_right nofun nofun;have hj1:((j+1:Nat):Int)*cst n=(j:Int)*cst n+cst n:=by rw[Int.natCast_add,Int.add_mul];omega
  have hv5:=al.1;right;refine aN (λg=>?_) (λg=>?_)
  .right;rename_i H5 z6;refine⟨_,_,rfl,z6.get .k2,?_⟩;right;refine hi (k:=k-1) (G:=pt fd (wl vs)::G) (F:=Δ++F) nofun (r:=r'-1) nofun nofun nofun z6 λv i r2 Δ2 H6 r20 r21 oki hti si z7=>?_
   left;refine⟨_,z7.get .k2,fZ z7 .k2 nofun λH8 z8=>?_⟩;right;have hsn:=mz (l:=b.map (aK n)) (y:=aK n i);refine⟨b++[i],vs++[v],r2,Δ2++Δ,_,rfl,by rw[db,gt];omega,λx hx=>?_,?_,r20,by omega,?_,?_⟩
   .rcases mem_append.mp hx with hx|hx
    .exact ok x hx
    .rw[mem_singleton.mp hx];exact oki
   .rw[lf];exact(al.map λv i=>eP.mono λA=>io _).snoc si
   .rw[ge];show((az (aL (b.map (aK n)++[aK n i])):Nat):Int)<=_
    omega
   .rw[lf];exact ao z8 (by rw[hj1];omega)
  .right;refine⟨b,vs,r',Δ,_,rfl,by omega,ok,al,r0',r1',ht,ao z5 (by rw[hj1];omega)⟩
 .rintro U H ⟨b,vs,r',Δ,u4,rfl,hl,ok,al,r0',r1',ht,z5⟩;have hjc:((M.toNat:Nat):Int)*cst n<=5*cst n:=Int.mul_le_mul_of_nonneg_right nofun nofun;right;refine q fd b vs r' (pt fd (wl vs)::Δ) H r0' r1' ⟨by omega,ok⟩ nofun ht lv (al.map λv i=>eP.mono λA h=>f8 _ h) ?_;exact dy (P:=[hand h (m+iI n),pt rm (wl [v0 r'])]) (L:=[pt fd (wl vs)]) (Δ:=Δ) (G:=G) (F:=F) (ao z5 nofun)
def EV:∀ n,Du R n
 |0=>we (rF λm e=>absurd e nofun)
 |n+1=>we (rF λm e=>by cases e;exact EV n)
end
abbrev qt (w:Str)(lo hi:Int):Option Int:=match n8 w with
 |some i=>if yo lo hi i then some i else none
 |none=>none
def il:∀ bs:List Bool,uM (.bl false) (bs.map V.bl)= !(bs.all id)
 | []=>rfl
 |b::bs=>by
  have ih:=il bs;cases b with
  |false=>rfl
  |true=>
   show uM (.bl false) (V.bl true::bs.map V.bl)= !(bs.all id);rw[<-ih]
   rfl
def tj (w:Str):(fv w none (some 1)).cps.toList=w.cps.toList.take 1:=by
 show((w.cps.toList.drop 0).take (HT.aO w.length w.length (some 1)-0)).toArray.toList=_;have h1:HT.aO w.length w.length (some 1)=min 1 w.length:=by
  show(if(1:Int)<0 then((1:Int)+(w.length:Int)).toNat else min (1:Int).toNat w.length)=_;rw[if_neg (by decide)]
  rfl
 rw[h1,drop_zero,Nat.sub_zero];show w.cps.toList.take (min 1 w.length)=_;rw[bX,List.take_eq_take_iff]
 omega
def Eg {w:Str}:gL (v6 (fv w none (some 1))) (v6 (Str.ofString "-"))=(w.cps.toList[0]? ==some 45):=by
 show(fv w none (some 1) ==Str.ofString "-")=_;have h:(Str.ofString "-").cps.toList=[45]:=by decide+kernel
 rw[Bool.eq_iff_iff,beq_iff_eq,beq_iff_eq];constructor
 .intro e;have e:=congrArg (λz:Str=>z.cps.toList) e;have e:(fv w none (some 1)).cps.toList=(Str.ofString "-").cps.toList:=e;rw[tj,h]at e;cases hL:w.cps.toList with
  |nil=>rw[hL]at e;cases e
  |cons c r=>rw[hL]at e;cases e;rfl
 .intro e;refine PyProof.Rows.ext_toList ?_;rw[tj,h];cases hL:w.cps.toList with
  |nil=>rw[hL]at e;cases e
  |cons c r=>rw[hL]at e;cases e;rfl
def o7 (w:Str):(fv w (some 0) none).cps.toList=w.cps.toList:=by
 show((w.cps.toList.drop (HT.aO w.length 0 (some 0))).take (HT.aO w.length w.length none-HT.aO w.length 0 (some 0))).toArray.toList=_;have h1:HT.aO w.length 0 (some 0)=0:=by
  show(if(0:Int)<0 then((0:Int)+(w.length:Int)).toNat else min (0:Int).toNat w.length)=0;rw[if_neg (by decide)];exact Nat.zero_min _
 rw[h1,show HT.aO w.length w.length none=w.length from rfl,drop_zero,Nat.sub_zero];exact take_of_length_le (by rw[<-bX];exact re _)
def vG (w:Str):(fv w (some (b2i (w.cps.toList[0]? ==some 45))) none).cps.toList=j5 w.cps.toList:=by
 cases hL:w.cps.toList with
 |nil=>
  rw[show((([]:List Nat)[0]?) ==some 45)=false from rfl];exact(o7 w).trans hL
 |cons c r=>
  by_cases h:c=45
  .subst h;rw[show((((45:Nat)::r)[0]?) ==some 45)=true from rfl];exact nE hL
  .rw[show(((c::r)[0]?) ==some 45)=false from beq_eq_false_iff_ne.mpr λe=>h (Option.some.inj e)];refine((o7 w).trans hL).trans ?_;unfold j5
   split
   .rename_i hh;exact absurd (List.cons.inj hh).1 h
   .rfl
def qo {w:Str}:gL (v6 w) (v6 (Str.ofString "0"))=decide (w.cps.toList=[48]):=by
 show(w ==Str.ofString "0")=_;rw[Bool.eq_iff_iff,beq_iff_eq,decide_eq_true_eq];exact⟨λe=>by rw[e];decide+kernel,λe=>PyProof.Rows.ext_toList (e.trans (by decide+kernel))⟩
def Dg:gL (v6 ⟨#[c]⟩) (v6 (Str.ofString "0"))=decide (c=48):=by
 rw[qo];show decide ([c]=[48])=_;simp
def BU (hlo:lo=(n:Int))(hhi:hi=lo+1):bH xs (some lo) (some hi)=(xs[n]?).toList:=by
 subst hhi hlo;unfold bH;have h1:HT.aO xs.length 0 (some (n:Int))=min n xs.length:=by
  show(if(n:Int)<0 then((n:Int)+(xs.length:Int)).toNat else min (n:Int).toNat xs.length)=_;rw[if_neg nofun,s0]
 have h2:HT.aO xs.length xs.length (some ((n:Int)+1))=min (n+1) xs.length:=by
  show(if(n:Int)+1<0 then((n:Int)+1+(xs.length:Int)).toNat else min ((n:Int)+1).toNat xs.length)=_;rw[if_neg nofun]
  rfl
 rw[h1,h2]
 by_cases h:n<xs.length
 .rw[Nat.min_eq_left nofun,Nat.min_eq_left nofun,show n+1-n=1 by omega,li h,drop_eq_getElem_cons h]
  rfl
 .rw[getElem?_eq_none nofun,Nat.min_eq_right nofun,Nat.min_eq_right nofun,Nat.sub_self,List.take_zero]
  rfl
section
variable {ws:List Str}{n:Nat}{w:Str}{lo hi:Int}
def wC {l:Addr}(e1:H p=some (wl (bH (ws.map v6) (some lo) (some hi))))(e2:H l=some (wl [v6 w]))(hlo:lo=(n:Int))(hhi:hi=lo+1):eZ K H 2 (ut p) (ut l) (isAt ws n w):=by
 rw[BU hlo hhi,jp]at e1;unfold isAt;cases e:ws[n]? with
 |none=>
  rw[e]at e1;exact .lln (n:=0) (aP.of e1) (aP.of e2) Nat.zero_ne_one
 |some v=>
  rw[e]at e1;have h:=eZ.ll (K:=K) (n:=0) (e:=λ_=>gL (v6 v) (v6 w)) (aP.of e1) (aP.of e2) rfl (λj x y hx hy=>by
   cases j with
   |zero=>cases hx;cases hy;exact .flat rfl rfl
   |succ j=>cases hx)
  have e:decide (some v=some w)=(List.range [v6 v].length).all λ_=>gL (v6 v) (v6 w):=by
   show _=(((v ==w):Bool)&&true);rw[Bool.and_true,Bool.eq_iff_iff,decide_eq_true_eq,beq_iff_eq,Option.some.injEq]
  rw[e];exact h
def w4 {l:Addr}(e1:H p=some (wl (bH (ws.map v6) (some lo) (some hi))))(e2:H l=some (wl [v6 w]))(ne:p≠l)(hlo:lo=(n:Int))(hhi:hi=lo+1)(q:Q (.bl (isAt ws n w)) H):dw K false (ut p) (ut l) H Q:=jN (wC e1 e2 hlo hhi) (by decide) ne q
def B9 {l:Addr}(e1:H p=some (wl (bH (ws.map v6) (some lo) (some hi))))(e2:H l=some (wl [v6 w]))(ne:p≠l)(hlo:lo=(n:Int))(hhi:hi=lo+1)(q:Q (.bl (!isAt ws n w)) H):dw K true (ut p) (ut l) H Q:=fL (wC e1 e2 hlo hhi) (by decide) ne q
abbrev jB (ws:List Str)(n:Nat):Str:=(ws[n]?).getD (Str.ofString "")
def qJ (hi:i=(n:Int))(hn:n<=ws.length):fH (ws.map v6++[v6 (Str.ofString "")]) i=some (v6 (jB ws n)):=by
 subst hi;refine L2.bL ?_;unfold jB;cases e:ws[n]? with
 |some w=>
  rw[getElem?_append_left (by rw[cr];exact(sK.mp e).1),jp,e]
  rfl
 |none=>
  have hl:n=ws.length:=by have:=List.getElem?_eq_none_iff.mp e;omega
  rw[getElem?_append_right (by rw[cr,hl];exact re _),cr,hl,Nat.sub_self]
  rfl
def sh (hs:∀ w ∈ ws,w.length<=100000):(jB ws n).length<=100000:=by
 unfold jB;cases e:ws[n]? with
 |some w=>exact hs w (dl e)
 |none=>exact Nat.zero_le _
def yV:qt (jB ws n) lo hi=aR ws n lo hi:=by
 unfold qt aR numAt jB;cases e:ws[n]? with
 |some w=>rfl
 |none=>
  have h:t9 (Str.ofString "")=false:=by unfold t9 pL;rw[show(Str.ofString "").cps.toList=[] by decide+kernel];rfl
  show(match n8 (Str.ofString "") with|some i=>if yo lo hi i then some i else none|none=>none)=none;unfold n8;rw[h]
  rfl
def ml:bE ws n=kc (jB ws n):=by
 unfold bE jB;cases e:ws[n]? with
 |some w=>rfl
 |none=>
  show none=kc (Str.ofString "")
  decide+kernel
def Dk:AY ws n=if jF (jB ws n) then some (jB ws n) else none:=by
 unfold AY jB;cases e:ws[n]? with
 |some w=>rfl
 |none=>
  have h:jF (Str.ofString "")=false:=by unfold jF;rw[show(Str.ofString "").length=0 by decide+kernel];rfl
  show none=if jF (Str.ofString "") then _ else none
  rw[h]
  rfl
end
section
variable {wa:Addr}{ws:List Str}{n:Nat}{F G:List ai}
def d7 (hk:1<=k)(hi':i=(n:Int))(hn:n<=ws.length)(hL:(ws.map v6).length<=99999)(hs:∀ w ∈ ws,w.length<=100000) (z:Sep (pt wa (wl (ws.map v6))::O) H) (q:∀ H',Sep (pt wa (wl (ws.map v6))::O) H'->Q (iO (aR ws n lo hi)) H'):ae tab R k 72 [ut wa,v0 i,v0 lo,v0 hi] H Q E:=by
 have hw:(jB ws n).length<=100000:=sh hs;have hm:min i ((ws.map v6).length:Int)=(n:Int):=by rw[cr];omega
 delta cQ;right;rename_i l1 H1 z1;refine di z1 (z1.get .k1) z1.at (by show _+1<=100000;omega) λl2 H2 z2=>?_
 right;refine aT z2.at (qJ hm hn) ?_;have q:∀ H',Sep (pt wa (wl (ws.map v6))::O) H'->Q (iO (qt (jB ws n) lo hi)) H':=by rw[yV];exact q
 generalize jB ws n=w at hw q;have z':=z2.drop.drop;clear z z1 z2 hm;have z:=z';clear z';left;refine Ew (z:=w) hw ?_;left;refine bB rfl rfl ?_;left;refine rp ?_;rw[Eg];left;refine Ew (z:=w) hw ?_;left;have hf:=vG w;have hfl:=gG w (some (b2i (w.cps.toList[0]? ==some 45))) none;generalize fv w (some (b2i (w.cps.toList[0]? ==some 45))) none=f at hf hfl⊢;have hl:f.length=(j5 w.cps.toList).length:=by rw[<-hf];exact bX f
 generalize hF:j5 w.cps.toList=F at hf hl;have hW:t9 w=pL w.cps.toList F:=by unfold t9;rw[hF]
 have no:pL w.cps.toList F=false->qt w lo hi=none:=λe=>by unfold qt n8;rw[hW,e];rfl
 refine eL (z:=f) nofun ?_;right;refine aN (λg1=>?_) (λg1=>?_)
 rotate_left
 .right;refine cast (congrArg (λb=>Q (iO b) _) (no ?_)) (q _ z);unfold pL;rw[decide_eq_false nofun]
  rfl
 right;refine aN (λg2=>?_) (λg2=>?_)
 rotate_left
 .right;refine cast (congrArg (λb=>Q (iO b) _) (no ?_)) (q _ z);unfold pL;rw[decide_eq_true nofun,decide_eq_false nofun]
  rfl
 right;refine lP (z:=f) (by show f.length<=1000;omega) (λD ys H=>ys=(F.map λc=>V.bl (ma c)).take ys.length/\Sep (pt D (wl ys)::pt wa (wl (ws.map v6))::O) H) (λD hD=>⟨rfl,z.new (o:=wl []) hD⟩) (λD ys c H hc hI=>?_) (λD ys H hl2 hI=>?_)
 .obtain⟨e,z1⟩:=hI;have hcm:F[ys.length]? =some c:=by rw[<-hf,Array.getElem?_toList];exact hc
  left;refine rV ?_;have hyl:ys.length<F.length:=(sK.mp hcm).1;refine oB.mk z1.at nofun ⟨?_,z1.set rfl⟩;rw[db,gt,take_add_one,<-e,jp,hcm]
  rfl
 .obtain⟨e,z1⟩:=hI;rw[hl2,show f.cps.size=F.length from hl,take_of_length_le (by rw[cr];exact re _)]at e;subst e;have eB:(F.map λc=>V.bl (ma c))=(F.map ma).map V.bl:=by rw[List.map_map];rfl
  have z2:=z1.drop;rw[eB]at z1;left;refine Fj (aP.of z1.at) rfl (by rw[all_eq_true];intro x hx;obtain⟨b,_,rfl⟩:=List.mem_map.mp hx;rfl) ?_;rw[il,show(F.map ma).all id=F.all ma by rw[List.all_map];rfl]
  by_cases g3:F.all ma=true
  .rw[g3];right;have e0:pL w.cps.toList F=(decide (w.cps.toList=[48])|| !(F[0]? ==some 48)):=by
    unfold pL;rw[decide_eq_true nofun,decide_eq_true nofun,g3]
    rfl
   obtain⟨c,r,eF⟩:∃ c r,F=c::r:=by
    cases F with
    |nil=>exact absurd g1 (by simp at hl⊢;omega)
    |cons c r=>exact⟨c,r,rfl⟩
   refine Fb (c:=c) nofun (by rw[hf,eF];exact L2.bL (j:=0) rfl) ?_;right;rw[Dg];have tru:t9 w=true->qt w lo hi=if yo lo hi (uG w.cps.toList) then some (uG w.cps.toList) else none:=λh=>by unfold qt n8;rw[if_pos h]
   have key:(c=48/\w.cps.toList≠[48])\/(t9 w=true/\¬ (c=48/\w.cps.toList≠[48])):=by
    by_cases h:c=48/\w.cps.toList≠[48]
    .exact .inl h
    .refine .inr ⟨?_,h⟩;rw[hW,e0,eF,Bool.or_eq_true,decide_eq_true_eq,Bool.not_eq_true',beq_eq_false_iff_ne]
     by_cases h2:w.cps.toList=[48]
     .exact .inl h2
     .exact .inr λe=>h ⟨Option.some.inj e,h2⟩
   rcases key with⟨h1,h2⟩|⟨hw1,hn⟩
   .refine aG (decide_eq_true h1) ?_;right;rw[qo,decide_eq_false h2];right;refine cast (congrArg (λb=>Q (iO b) _) (no ?_)) (q _ z2);rw[e0,decide_eq_false h2,eF,h1]
    rfl
   .obtain⟨e1,e2⟩:=rD hw1;have tr:=tru hw1;unfold yo at tr
    by_cases h1:c=48
    .have h2:w.cps.toList=[48]:=Classical.byContradiction λh=>hn ⟨h1,h⟩
     refine aG (decide_eq_true h1) ?_;right;rw[qo,decide_eq_true h2];right;refine gB (z:=w) e1 nofun ?_;right;refine aN (λl1=>?_) (λl1=>?_)
     .right;refine aN (λl2=>?_) (λl2=>?_)
      .right;refine gB (z:=w) e1 nofun ?_;right;have g:=q _ z2;rw[tr,decide_eq_true l1,decide_eq_true l2]at g;exact g
      .right;have g:=q _ z2;rw[tr,decide_eq_true l1,decide_eq_false l2]at g;exact g
     .right;have g:=q _ z2;rw[tr,decide_eq_false l1]at g;exact g
    .refine aD (decide_eq_false h1) ?_;right;refine gB (z:=w) e1 nofun ?_;right;refine aN (λl1=>?_) (λl1=>?_)
     .right;refine aN (λl2=>?_) (λl2=>?_)
      .right;refine gB (z:=w) e1 nofun ?_;right;have g:=q _ z2;rw[tr,decide_eq_true l1,decide_eq_true l2]at g;exact g
      .right;have g:=q _ z2;rw[tr,decide_eq_true l1,decide_eq_false l2]at g;exact g
     .right;have g:=q _ z2;rw[tr,decide_eq_false l1]at g;exact g
  .have g3:F.all ma=false:=by simpa using g3
   rw[g3];right;refine cast (congrArg (λb=>Q (iO b) _) (no ?_)) (q _ z2);unfold pL;rw[decide_eq_true nofun,decide_eq_true nofun,g3]
   rfl
end
section
variable {wa:Addr}{ws:List Str}{n L:Nat}{F G:List ai}
abbrev EL (wa:Addr)(ws:List Str)(G F:List ai)(Q:VK)(m:Nat):Prop:=∀ t Δ H',m<=ws.length->tu t [wf,v0 (m:Int)] ∈ Δ++F->Sep (pt wa (wl (ws.map v6))::(G++(Δ++F))) H'->Q (ut t) H'
abbrev uC (wa:Addr)(ws:List Str)(L:Nat)(G F:List ai)(Q:VK):Rd Itm->Prop
 | .ok i m=>∀ t d Δ H',m<=ws.length->tu t [ut d,v0 (m:Int)] ∈ Δ++F->eP (Δ++F) L (ut d) i->Sep (pt wa (wl (ws.map v6))::(G++(Δ++F))) H'->Q (ut t) H'
 | .no m=>EL wa ws G F Q m
abbrev G9 (wa:Addr)(ws:List Str)(L:Nat)(G F:List ai)(Q:VK):Rd (List Itm)->Prop
 | .ok b m=>∀ t l vs Δ H',m<=ws.length->tu t [ut l,v0 (m:Int)] ∈ Δ++F->pt l (wl vs) ∈ Δ++F->d8 (eP (Δ++F) L) vs b->Sep (pt wa (wl (ws.map v6))::(G++(Δ++F))) H'->Q (ut t) H'
 | .no m=>EL wa ws G F Q m
def uR:∀ Δ:List ai,Sub O (Δ++O)
 | []=>.refl
 |_::Δ=>.drop (uR Δ)
def ft (q:EL wa ws G F Q m)(hi:i=(m:Int))(hm:m<=ws.length)(z:Sep (pt p (wn [wf,v0 i])::(S++(pt wa (wl (ws.map v6))::(G++(Δ++F))))) H):Q (ut p) H:=by
 subst hi;exact q p (tu p [wf,v0 (m:Int)]::Δ) H hm lv (dy (P:=[]) (L:=[tu p _]) (G:=pt wa (wl (ws.map v6))::G) (z.toT.sub (.cons .e (uR S))))
def aX (q:EL wa ws G F Q m)(hi:i=(m:Int))(hm:m<=ws.length)(z:Sep (pt p (wn [wf,v0 i])::(S++(pt wa (wl (ws.map v6))::(G++F)))) H):Q (ut p) H:=ft (Δ:=[]) q hi hm z
def pD {s:Addr}(q:uC wa ws L G F Q (.ok (.row r) m))(hi:i=(m:Int))(hm:m<=ws.length)(z:Sep (pt p (wn [ut x,v0 i])::pt x (wn [v6 (Str.ofString "deed"),ut s])::pt s (wn r.tl)::(S++(pt wa (wl (ws.map v6))::(G++F)))) H):Q (ut p) H:=by
 subst hi;have z1:=(((z.pull .k2).toT.pull .k2).toT.pull .k2).toT;have z2:Sep (tu p [ut x,v0 (m:Int)]::tu x [v6 (Str.ofString "deed"),ut s]::tu s r.tl::pt wa (wl (ws.map v6))::(G++F)) H:=z1.sub (.cons .e (.cons .e (.cons .e (uR S))));refine q p x [tu p [ut x,v0 (m:Int)],tu x [v6 (Str.ofString "deed"),ut s],tu s r.tl] H hm lv ?_ (dy (P:=[]) (L:=[tu p _,tu x _,tu s _]) (Δ:=[]) (G:=pt wa (wl (ws.map v6))::G) z2);cases L<;>exact⟨x,s,rfl,f8 _ lv,f8 _ (f8 _ lv)⟩
def Eo (hk:2<=k)(hn:n<ws.length)(hL:(ws.map v6).length<=99999)(hs:∀ w ∈ ws,w.length<=100000) (z:Sep (pt wa (wl (ws.map v6))::(G++F)) H) (q:uC wa ws L G F Q (vV (iV ws (n+1)))):ae tab R k 73 [ut wa,v0 n] H Q E:=by
 delta dv;unfold iV at q;right;refine d7 (n:=n+1) nofun nofun nofun hL hs z λH1 z1=>?_
 cases e1:aR ws (n+1) 0 24 with
 |none=>
  rw[e1]at q;left;refine aB ?_;right;rename_i p H2 z2;exact aX (S:=[]) q (by rw[cr];omega) nofun z2
 |some m=>
  have h1:n+1<ws.length:=by
   obtain⟨w,hw⟩:=cM (av e1).2.2;exact(sK.mp hw).1
  rw[e1]at q;have q:uC wa ws L G F Q (vV (if isAt ws (n+2) (Str.ofString "if") then(match aR ws (n+3) 0 1 with|none=>.no (n+3)|some o=>.ok (.hop m (some o)) (n+4)) else .ok (.hop m none) (n+2))):=q;left;refine aB ?_;right;rename_i p2 H2 z2 p3 H3 z3;refine B9 (n:=n+2) (z3.get .k1) z3.at z3.ne.symm nofun nofun ?_;cases h:isAt ws (n+2) (Str.ofString "if") with
  |false=>
   rw[h]at q;right;rename_i s H4 z4 x H5 z5 p H6 z6;exact pD (S:=[_,_]) (r:=.hop m none) q nofun nofun z6
  |true=>
   have hl:n+2<ws.length:=by
    have:=of_decide_eq_true h;exact(sK.mp this).1
   rw[h]at q;have q:uC wa ws L G F Q (vV (match aR ws (n+3) 0 1 with|none=>.no (n+3)|some o=>.ok (.hop m (some o)) (n+4))):=q;right;refine d7 (n:=n+3) nofun nofun nofun hL hs z3.drop.drop λH4 z4=>?_
   cases e2:aR ws (n+3) 0 1 with
   |none=>
    rw[e2]at q;left;refine aB ?_;right;rename_i p H5 z5;exact aX (S:=[]) q (by rw[cr];omega) nofun z5
   |some o=>
    have h3:n+3<ws.length:=by
     obtain⟨w,hw⟩:=cM (av e2).2.2;exact(sK.mp hw).1
    rw[e2]at q;left;refine aB ?_;right;rename_i s H5 z5 x H6 z6 p H7 z7;exact pD (S:=[]) (r:=.hop m (some o)) q nofun nofun z7
end
abbrev Bk (ws:List Str)(c n:Nat):Option V:=if c=110 then(aR ws n (-1000000000) 1000000000).map v0 else(bE ws n).map λb=>v6 b.nm
abbrev kr (ws:List Str):List Nat->Nat->List V->Rd (List V)
 | [],n,acc=>.ok acc n
 |c::cs,n,acc=>match Bk ws c n with
  |none=>.no n
  |some v=>kr ws cs (n+1) (acc++[v])
abbrev jA:Rd (List V)->Rd Rw->Prop
 | .ok a m,.ok r m'=>a=r.tl/\m=m'
 | .no m,.no m'=>m=m'
 |_,_=>False
abbrev Dz:List (Key×V):=[(.inr "set",v6 "bn"),(.inr "add",v6 "bn"),(.inr "take",v6 "bb"),(.inr "read",v6 "b"),(.inr "write",v6 "b"),(.inr "copy",v6 ""),(.inr "fill",v6 ""),(.inr "seek",v6 ""),(.inr "match",v6 ""),(.inr "shift",v6 ""),(.inr "turn",v6 "")]
variable {f:Bn->Int->Sp}
section
variable {ws:List Str}{n:Nat}{w:Str}
def sD (hf:∀ b i,(f b i).tl=[v6 w,v6 b.nm,v0 i]):jA (kr ws [98,110] n [v6 w]) (oa f ws n):=by
 unfold oa;show jA (match (bE ws n).map (λb=>v6 b.nm) with|none=>.no n|some v=>(match (aR ws (n+1) (-1000000000) 1000000000).map v0 with|none=>.no (n+1)|some v'=>.ok ([v6 w]++[v]++[v']) (n+2))) _;cases bE ws n with
 |none=>rfl
 |some b=>
  cases aR ws (n+1) (-1000000000) 1000000000 with
  |none=>rfl
  |some i=>exact⟨(hf b i).symm,rfl⟩
def AZ:jA (kr ws [98,98] n [v6 "take"]) (uu ws n):=by
 unfold uu;show jA (match (bE ws n).map (λb=>v6 b.nm) with|none=>.no n|some v=>(match (bE ws (n+1)).map (λb=>v6 b.nm) with|none=>.no (n+1)|some v'=>.ok ([v6 "take"]++[v]++[v']) (n+2))) _;cases bE ws n with
 |none=>rfl
 |some b=>
  cases bE ws (n+1) with
  |none=>rfl
  |some i=>exact⟨rfl,rfl⟩
def vf {f:Bn->Sp}(hf:∀ b,(f b).tl=[v6 w,v6 b.nm]):jA (kr ws [98] n [v6 w]) (nM f ws n):=by
 unfold nM;show jA (match (bE ws n).map (λb=>v6 b.nm) with|none=>.no n|some v=>.ok ([v6 w]++[v]) (n+1)) _;cases bE ws n with
 |none=>rfl
 |some b=>exact⟨(hf b).symm,rfl⟩
def y8 (ew:ws[n]? =some w)(nh:w≠"hop"):(fm Dz (.inr w)=none/\og ws n=.no n)\/∃ z:Str,fm Dz (.inr w)=some (v6 z)/\z.cps.size<=2/\jA (kr ws z.cps.toList (n+1) [v6 w]) (og ws n):=by
 have at_:∀ v,isAt ws n v=decide (w=v):=λv=>by
  unfold isAt;rw[ew,Bool.eq_iff_iff,decide_eq_true_eq,decide_eq_true_eq,Option.some.injEq]
 unfold og uh;simp only[at_];have c1:("bn":Str).cps.toList=[98,110]:=by decide+kernel
 have c2:("bb":Str).cps.toList=[98,98]:=by decide+kernel
 have c3:("b":Str).cps.toList=[98]:=by decide+kernel
 have c4:("":Str).cps.toList=[]:=by decide+kernel
 by_cases h1:w="set"
 .subst h1;exact .inr ⟨"bn",by rfl,by decide+kernel,by rw[c1,if_pos (by decide+kernel)];exact sD λb i=>rfl⟩
 by_cases h2:w="add"
 .subst h2;exact .inr ⟨"bn",by rfl,by decide+kernel,by rw[c1,if_neg (by decide+kernel),if_pos (by decide+kernel)];exact sD λb i=>rfl⟩
 by_cases h3:w="take"
 .subst h3;exact .inr ⟨"bb",by rfl,by decide+kernel,by rw[c2,if_neg (by decide+kernel),if_neg (by decide+kernel),if_pos (by decide+kernel)];exact AZ⟩
 by_cases h4:w="read"
 .subst h4;exact .inr ⟨"b",by rfl,by decide+kernel,by rw[c3,if_neg (by decide+kernel),if_neg (by decide+kernel),if_neg (by decide+kernel),if_pos (by decide+kernel)];exact vf λb=>rfl⟩
 by_cases h5:w="write"
 .subst h5;exact .inr ⟨"b",by rfl,by decide+kernel,by rw[c3,if_neg (by decide+kernel),if_neg (by decide+kernel),if_neg (by decide+kernel),if_neg (by decide+kernel),if_pos (by decide+kernel)];exact vf λb=>rfl⟩
 rw[if_neg (by simpa using h1),if_neg (by simpa using h2),if_neg (by simpa using h3),if_neg (by simpa using h4),if_neg (by simpa using h5),if_neg (by simpa using nh)]
 by_cases g1:w="copy"
 .subst g1;exact .inr ⟨"",by rfl,by decide+kernel,by rw[c4,if_pos (by decide+kernel)];exact⟨rfl,rfl⟩⟩
 by_cases g2:w="fill"
 .subst g2;exact .inr ⟨"",by rfl,by decide+kernel,by rw[c4,if_neg (by decide+kernel),if_pos (by decide+kernel)];exact⟨rfl,rfl⟩⟩
 by_cases g3:w="seek"
 .subst g3;exact .inr ⟨"",by rfl,by decide+kernel,by rw[c4,if_neg (by decide+kernel),if_neg (by decide+kernel),if_pos (by decide+kernel)];exact⟨rfl,rfl⟩⟩
 by_cases g4:w="match"
 .subst g4;exact .inr ⟨"",by rfl,by decide+kernel,by rw[c4,if_neg (by decide+kernel),if_neg (by decide+kernel),if_neg (by decide+kernel),if_pos (by decide+kernel)];exact⟨rfl,rfl⟩⟩
 by_cases g5:w="shift"
 .subst g5;exact .inr ⟨"",by rfl,by decide+kernel,by rw[c4,if_neg (by decide+kernel),if_neg (by decide+kernel),if_neg (by decide+kernel),if_neg (by decide+kernel),if_pos (by decide+kernel)];exact⟨rfl,rfl⟩⟩
 by_cases g6:w="turn"
 .subst g6;exact .inr ⟨"",by rfl,by decide+kernel,by rw[c4,if_neg (by decide+kernel),if_neg (by decide+kernel),if_neg (by decide+kernel),if_neg (by decide+kernel),if_neg (by decide+kernel),if_pos (by decide+kernel)];exact⟨rfl,rfl⟩⟩
 refine .inl ⟨?_,by rw[if_neg (by simpa using g1),if_neg (by simpa using g2),if_neg (by simpa using g3),if_neg (by simpa using g4),if_neg (by simpa using g5),if_neg (by simpa using g6)]⟩;simp[fm,Dz,Ne.symm h1,Ne.symm h2,Ne.symm h3,Ne.symm h4,Ne.symm h5,Ne.symm g1,Ne.symm g2,Ne.symm g3,Ne.symm g4,Ne.symm g5,Ne.symm g6]
def ED {v:Str}:gL (v6 w) (v6 v)=decide (w=v):=by
 show(w ==v)=_;rw[Bool.eq_iff_iff,beq_iff_eq,decide_eq_true_eq]
def HZ:gL (v6 ⟨#[c]⟩) (v6 (Str.ofString "n"))=decide (c=110):=by
 rw[ED,Bool.eq_iff_iff,decide_eq_true_eq,decide_eq_true_eq];constructor
 .intro e;have e:=congrArg (λz:Str=>z.cps.toList) e;have e:[c]=(Str.ofString "n").cps.toList:=e;rw[show(Str.ofString "n").cps.toList=[110] by decide+kernel]at e;exact(List.cons.inj e).1
 .rintro rfl
  decide+kernel
end
def pE {ks:List Str}{kvs:List (Key×V)}(z:Sep O H)(r:dg (pt d (.dK [])) (pt d (.dK kvs)) O Γ')(e:bb [] (DL ks vs)=kvs)(q:∀ H',Sep Γ' H'->Q (ut d) H'):so ks d vs H Q:=by
 obtain⟨Δ,p1,p2⟩:=r.o8;unfold so;rw[e];exact⟨z.get p1,q _ (z.put r rfl)⟩
abbrev Im:List (Key×V):=[(.inr "set",v6 "bn"),(.inr "add",v6 "bn"),(.inr "take",v6 "bb"),(.inr "read",v6 "b"),(.inr "write",v6 "b"),(.inr "copy",v6 ""),(.inr "fill",v6 ""),(.inr "seek",v6 "")]
abbrev Ht:List (Key×V):=[(.inr "match",v6 ""),(.inr "shift",v6 ""),(.inr "turn",v6 "")]
section
variable {wa:Addr}{ws:List Str}{n L:Nat}{F G:List ai}
def uk {s:Addr}(q:uC wa ws L G F Q (.ok (.row r) m))(hi:i=(m:Int))(hm:m<=ws.length)(z:Sep (pt p (wn [ut x,v0 i])::pt x (wn [v6 (Str.ofString "deed"),ut s])::tu s r.tl::(S++(pt wa (wl (ws.map v6))::(G++F)))) H):Q (ut p) H:=by
 subst hi;have z1:=((z.pull .k1).toT.pull .k1).toT;have z2:Sep (tu p [ut x,v0 (m:Int)]::tu x [v6 (Str.ofString "deed"),ut s]::tu s r.tl::pt wa (wl (ws.map v6))::(G++F)) H:=z1.sub (.cons .e (.cons .e (.cons .e (uR S))));refine q p x [tu p [ut x,v0 (m:Int)],tu x [v6 (Str.ofString "deed"),ut s],tu s r.tl] H hm lv ?_ (dy (P:=[]) (L:=[tu p _,tu x _,tu s _]) (Δ:=[]) (G:=pt wa (wl (ws.map v6))::G) z2);cases L<;>exact⟨x,s,rfl,f8 _ lv,f8 _ (f8 _ lv)⟩
def AN (hk:3<=k)(hn:n<ws.length)(hL:(ws.map v6).length<=99999)(hs:∀ w ∈ ws,w.length<=100000) (z:Sep (pt wa (wl (ws.map v6))::(G++F)) H) (q:uC wa ws L G F Q (vV (og ws n))):ae tab R k 74 [ut wa,v0 n] H Q E:=by
 obtain⟨w,ew⟩:∃ w,ws[n]? =some w:=⟨_,li hn⟩;have eI:fH (ws.map v6) (n:Int)=some (v6 w):=L2.bL (by rw[jp,ew];rfl);delta cG;right;intro d hd;have z1:=z.new (o:=.dK []) hd;left;refine pE (kvs:=Im) z1 .e rfl λH2 z2=>?_
 left;refine⟨d,_,rfl,z2.at,?_⟩;left;intro d2 hd2;have z3:=z2.new (o:=.dK []) hd2;left;refine pE (kvs:=Ht) z3 .e rfl λH4 z4=>?_
 refine Il (z4.get .k1) z4.at z4.ne.symm (by decide) ?_;have z5:Sep (pt d (.dK Dz)::pt wa (wl (ws.map v6))::(G++F)) (upd H4 d (.dK (bb Im Ht))):=Sep.drop (z4.put (o':=.dK Dz) (.t .e) rfl);generalize upd H4 d (.dK (bb Im Ht))=H5 at z5⊢;clear z1 z2 z3 z4 z;right;refine aT (z5.get .k1) eI ?_;right;rw[ED];have hk':isAt ws n "hop"=decide (w="hop"):=by
  unfold isAt;rw[ew,Bool.eq_iff_iff,decide_eq_true_eq,decide_eq_true_eq,Option.some.injEq]
 by_cases nh:w="hop"
 .refine aG (decide_eq_true nh) ?_;right;refine Eo (L:=L) nofun hn hL hs z5.drop ?_;have e:og ws n=iV ws (n+1):=by
   subst nh;have at_:∀ v,isAt ws n v=decide (("hop":Str)=v):=λv=>by
    unfold isAt;rw[ew,Bool.eq_iff_iff,decide_eq_true_eq,decide_eq_true_eq,Option.some.injEq]
   unfold og;simp only[at_];rw[if_neg (by decide+kernel),if_neg (by decide+kernel),if_neg (by decide+kernel),if_neg (by decide+kernel),if_neg (by decide+kernel),if_pos (by decide+kernel)]
  rw[<-e];exact q
 refine aD (decide_eq_false nh) ?_;right;refine aT (z5.get .k1) eI ?_;left;refine Fl (k:=.inr w) z5.at ?_;rcases y8 ew nh with⟨e1,e2⟩|⟨u,e1,hu,lk⟩
 .rw[e1];rw[e2]at q;right;rename_i p H6 z6;exact aX (S:=[_]) q rfl nofun z6
 rw[e1];right;refine aT (z5.get .k1) eI ?_;right;rename_i sl H6 z6;refine aT (z6.get .k2) eI ?_;left;refine HV (k:=.inr w) (z6.get .k1) e1 ?_;left;refine Ai (λj U H=>∃ (acc:List V) (u4 u5:Option V),U=[some (ut wa),some (v0 ((n+j:Nat):Int)),some (ut d),some (ut sl),u4,u5]/\kr ws (u.cps.toList.drop j) (n+1+j) acc=kr ws u.cps.toList (n+1) [v6 w]/\n+j<ws.length/\acc.length<=1+j/\Sep (pt sl (wl acc)::pt d (.dK Dz)::pt wa (wl (ws.map v6))::(G++F)) H) ?_ ?_ ?_
 .exact⟨[v6 w],none,none,rfl,rfl,hn,re _,z6⟩
 .rintro j c U H1 hc ⟨acc,u4,u5,rfl,er,hj,ha,z7⟩;have hj2:j<u.cps.size:=(Array.getElem?_eq_some_iff.mp hc).1;have ed:u.cps.toList.drop j=c::u.cps.toList.drop (j+1):=by
   rw[drop_eq_getElem_cons (by rw[Array.length_toList];exact hj2)]
   congr 1
   exact(Array.getElem?_eq_some_iff.mp hc).2
  rw[ed]at er;have er:(match Bk ws c (n+1+j) with|none=>Rd.no (n+1+j)|some v=>kr ws (u.cps.toList.drop (j+1)) (n+1+j+1) (acc++[v]))=kr ws u.cps.toList (n+1) [v6 w]:=er;have bad:Bk ws c (n+1+j)=none->EL wa ws G F Q (n+1+j):=λe=>by
   rw[e]at er;rw[<-er]at lk;cases e2:og ws n with
   |ok r m=>rw[e2]at lk;exact lk.elim
   |no m=>
    rw[e2]at lk q;have lk:n+1+j=m:=lk;rw[lk];exact q
  have hmin:∀ {x:Int},x=((n+1+j:Nat):Int)->min x ((ws.map v6).length:Int)=((n+1+j:Nat):Int):=λh=>by rw[cr];omega
  right;rename_i l1 H2 z8;refine di z8 (z8.get .k3) z8.at (by show _+1<=100000;omega) λl2 H3 z9=>?_
  right;refine aT z9.at (qJ (n:=n+1+j) (hmin nofun) nofun) ?_;right;rw[HZ];have zA:Sep (pt sl (wl acc)::pt d (.dK Dz)::pt wa (wl (ws.map v6))::(G++F)) H3:=z9.drop.drop;have hat:((n+(j+1):Nat):Int)=((n+j:Nat):Int)+1:=by omega
  by_cases hc1:c=110
  .refine aG (decide_eq_true hc1) ?_;right;rw[w9];refine d7 (n:=n+1+j) nofun nofun nofun hL hs (zA.pull .k2) λH4 zB=>?_
   cases e:aR ws (n+1+j) (-1000000000) 1000000000 with
   |none=>
    left;refine aB ?_;right;rename_i p H5 zC;exact aX (S:=[]) (bad (by unfold Bk;rw[if_pos hc1,e];rfl)) (hmin nofun) nofun (zC.sub (.cons .e (.cons .e (.drop (.drop .refl)))))
   |some i=>
    have hl:n+1+j<ws.length:=by
     obtain⟨w,hw⟩:=cM (av e).2.2;exact(sK.mp hw).1
    have hp:Bk ws c (n+1+j)=some (v0 i):=by unfold Bk;rw[if_pos hc1,e];rfl
    rw[hp]at er;left;refine aB ?_;right;refine⟨sl,acc,rfl,zB.get .k1,?_⟩;left;refine⟨acc,zB.get .k1,fZ zB (.t .e) nofun λH5 zC=>?_⟩;right;refine⟨acc++[v0 i],_,_,by rw[hat];rfl,er,by omega,by rw[db,gt];omega,?_⟩;exact zC.sub (.cons .k1 (.cons .k1 (.cons .e .refl)))
  .refine aD (decide_eq_false hc1) ?_;right;rename_i p2 H4 zB;refine F7 (a5.of zB.at) rfl rfl ?_;have hb:uM (v6 (jB ws (n+1+j))) [v6 (Str.ofString "here"),v6 (Str.ofString "there"),v6 (Str.ofString "left"),v6 (Str.ofString "way"),v6 (Str.ofString "sign"),v6 (Str.ofString "met")]=(kc (jB ws (n+1+j))).isSome:=pV;rw[hb];have zC:=zB.drop;clear zB zA;cases e:kc (jB ws (n+1+j)) with
   |none=>
    right;refine aB ?_;right;rename_i p H5 zD;exact aX (S:=[_,_]) (bad (by unfold Bk;rw[if_neg hc1,ml,e];rfl)) (hmin nofun) nofun zD
   |some b=>
    have hl:n+1+j<ws.length:=by
     have h:bE ws (n+1+j)=some b:=by rw[ml,e]
     unfold bE at h;cases e3:ws[n+1+j]? with
     |none=>rw[e3]at h;cases h
     |some w=>exact(sK.mp e3).1
    have hp:Bk ws c (n+1+j)=some (v6 (jB ws (n+1+j))):=by unfold Bk;rw[if_neg hc1,ml,e,lV e];rfl
    rw[hp]at er;right;refine aB ?_;right;refine⟨sl,acc,rfl,zC.at,?_⟩;left;refine⟨acc,zC.at,fZ zC .e nofun λH5 zD=>?_⟩;right;exact⟨acc++[v6 (jB ws (n+1+j))],_,_,by rw[hat];rfl,er,by omega,by rw[db,gt];omega,zD⟩
 .rintro U H1 ⟨acc,u4,u5,rfl,er,hj,ha,z7⟩;rw[drop_of_length_le (by rw[Array.length_toList];exact re _)]at er;have er:Rd.ok acc (n+1+u.cps.size)=kr ws u.cps.toList (n+1) [v6 w]:=er;rw[<-er]at lk;cases e2:og ws n with
  |no m=>rw[e2]at lk;exact lk.elim
  |ok r m=>
   rw[e2]at lk q;obtain⟨ea,em⟩:acc=r.tl/\n+1+u.cps.size=m:=lk;subst ea;right;refine Ee z7 z7.at λs H2 z8=>?_
   right;rename_i x H3 z9 p H4 zA;exact uk (S:=[_,_]) q nofun nofun zA
end
abbrev FR (R:Rt)(L:Nat):Prop:=∀ {k n:Nat}{i dd:Int}{wa:Addr}{ws:List Str}{F G:List ai}{H:Hp}{Q:VK}{E:XK},3*L+5<=k->i=(n:Int)->dd=4-(L:Int)->n<=ws.length->(ws.map v6).length<=99999->(∀ w ∈ ws,w.length<=100000)->Sep (pt wa (wl (ws.map v6))::(G++F)) H->uC wa ws L G F Q (cy (aW ws L) ws n)->ae tab R k 76 [ut wa,v0 i,v0 dd] H Q E
abbrev Ay (R:Rt)(L:Nat):Prop:=∀ {k n:Nat}{i dd:Int}{wa:Addr}{ws:List Str}{F G:List ai}{H:Hp}{Q:VK}{E:XK},3*L+3<=k->i=(n:Int)->dd=5-(L:Int)->n<=ws.length->(ws.map v6).length<=99999->(∀ w ∈ ws,w.length<=100000)->Sep (pt wa (wl (ws.map v6))::(G++F)) H->G9 wa ws (L-1) G F Q (aW ws L n)->ae tab R k 77 [ut wa,v0 i,v0 dd] H Q E
section
variable {wa:Addr}{ws:List Str}{n L:Nat}{F G:List ai}
def A4 (ih:Ay R L)(hk:3*L+4<=k)(hn:n<ws.length)(hL:(ws.map v6).length<=99999)(hs:∀ w ∈ ws,w.length<=100000) (z:Sep (pt wa (wl (ws.map v6))::(G++F)) H) (q:uC wa ws L G F Q (GF (aW ws L) ws (n+1))):ae tab R k 75 [ut wa,v0 n,v0 (4-(L:Int))] H Q E:=by
 delta cU;unfold GF at q;right;refine d7 (n:=n+1) nofun nofun nofun hL hs z λH1 z1=>?_
 cases e1:aR ws (n+1) 0 1 with
 |none=>
  rw[e1]at q;left;refine aB ?_;right;rename_i p H2 z2;exact aX (S:=[]) q (by rw[cr];omega) nofun z2
 |some o=>
  have h1:n+1<ws.length:=by
   obtain⟨w,hw⟩:=cM (av e1).2.2;exact(sK.mp hw).1
  rw[e1]at q;have q:uC wa ws L G F Q (match aW ws L (n+2) with| .no e=>.no e| .ok b e=>w6 (aW ws L) ws o b e):=q;left;refine aB ?_;right;refine ih (n:=n+2) (G:=G) nofun nofun nofun nofun hL hs z1 ?_;cases eB:aW ws L (n+2) with
  |no m=>
   rw[eB]at q;intro t Δ H2 hm ht z2;left;refine⟨_,_,rfl,.inl (a5.of (fj (G:=pt wa (wl (ws.map v6))::G) ht z2)),rfl,?_⟩;left;refine aB ?_;right;rename_i p H3 z3;exact ft (S:=[]) q rfl hm z3
  |ok b e=>
   rw[eB]at q;cases L with
   |zero=>cases eB
   |succ L=>
    have q:uC wa ws (L+1) G F Q (if isAt ws e sY then(match aW ws (L+1) (e+1) with| .no e2=>.no e2| .ok c e2=>.ok (.whn o b c) e2) else .ok (.whn o b []) e):=q;intro t l vs Δ H2 he ht hl al z2;left;refine⟨_,_,rfl,.inl (a5.of (fj (G:=pt wa (wl (ws.map v6))::G) ht z2)),rfl,?_⟩;left;refine aB ?_;right;rename_i lo H3 z3 p1 H4 z4 p2 H5 z5;refine w4 (n:=e) (z5.get .k1) z5.at z5.ne.symm rfl rfl ?_;cases h:isAt ws e sY with
    |false=>
     rw[h]at q;right;rename_i d H6 z6 p H7 z7;have z8:=((z7.pull .k1).toT.pull .k1).toT;have z9:Sep (tu p [ut d,v0 (e:Int)]::tu d [v6 (Str.ofString "when"),v0 o,ut l,ut lo]::pt lo (wl [])::pt wa (wl (ws.map v6))::(G++(Δ++F))) H7:=z8.sub (.cons .e (.cons .e (.cons .k2 (.cons .k2 (.drop (.drop .refl))))));have up:∀ A,A ∈ Δ++F->A ∈ ([tu p [ut d,v0 (e:Int)],tu d [v6 (Str.ofString "when"),v0 o,ut l,ut lo],pt lo (wl [])]++Δ)++F:=λA h=>f8 _ (f8 _ (f8 _ h))
     refine q p d _ H7 he lv ⟨d,l,vs,lo,[],rfl,f8 _ lv,⟨up _ hl,al.map λv i=>eP.mono up⟩,f8 _ (f8 _ lv),.nil⟩ ?_;exact dy (P:=[]) (L:=[tu p _,tu d _,pt lo _]) (Δ:=Δ) (G:=pt wa (wl (ws.map v6))::G) z9
    |true=>
     have hl2:e<ws.length:=(sK.mp (of_decide_eq_true h)).1;rw[h]at q;have q:uC wa ws (L+1) G F Q (match aW ws (L+1) (e+1) with| .no e2=>.no e2| .ok c e2=>.ok (.whn o b c) e2):=q;right;refine ih (n:=e+1) (G:=G) (F:=Δ++F) nofun nofun nofun nofun hL hs z5.drop.drop.drop ?_;cases eC:aW ws (L+1) (e+1) with
     |no m=>
      rw[eC]at q;intro t2 Δ2 H6 hm ht2 z6;left;refine⟨_,_,rfl,.inl (a5.of (fj (G:=pt wa (wl (ws.map v6))::G) ht2 z6)),rfl,?_⟩;left;refine aB ?_;right;rename_i p H7 z7;exact ft (S:=[]) (Δ:=Δ2++Δ) q rfl hm (by rw[lf];exact z7)
     |ok c e2=>
      rw[eC]at q;intro t2 l2 vs2 Δ2 H6 he2 ht2 hl2 uW z6;left;refine⟨_,_,rfl,.inl (a5.of (fj (G:=pt wa (wl (ws.map v6))::G) ht2 z6)),rfl,?_⟩;left;refine aB ?_;right;rename_i d H7 z7 p H8 z8;have z9:=((z8.pull .k1).toT.pull .k1).toT;have zA:Sep (tu p [ut d,v0 (e2:Int)]::tu d [v6 (Str.ofString "when"),v0 o,ut l,ut l2]::pt wa (wl (ws.map v6))::(G++((Δ2++Δ)++F))) H8:=by rw[lf];exact z9
      have up:∀ A,A ∈ Δ2++(Δ++F)->A ∈ ([tu p [ut d,v0 (e2:Int)],tu d [v6 (Str.ofString "when"),v0 o,ut l,ut l2]]++(Δ2++Δ))++F:=λA h=>by
       refine f8 _ (f8 _ ?_);show A ∈ (Δ2++Δ)++F;rw[lf];exact h
      have up0:∀ A,A ∈ Δ++F->A ∈ ([tu p [ut d,v0 (e2:Int)],tu d [v6 (Str.ofString "when"),v0 o,ut l,ut l2]]++(Δ2++Δ))++F:=λA h=>up A (k9 h)
      refine q p d _ H8 he2 lv ⟨d,l,vs,l2,vs2,rfl,f8 _ lv,⟨up0 _ hl,al.map λv i=>eP.mono up0⟩,up _ hl2,uW.map λv i=>eP.mono up⟩ ?_;exact dy (P:=[]) (L:=[tu p _,tu d _]) (Δ:=Δ2++Δ) (G:=pt wa (wl (ws.map v6))::G) zA
end
section
variable {wa:Addr}{ws:List Str}{n L:Nat}{F G:List ai}
def zP {B:Nat->Rd (List Itm)}(h:ws[n]? =none):cy B ws n=.no n:=by
 have at_:∀ v,isAt ws n v=false:=λv=>by unfold isAt;rw[h];rfl
 unfold cy og uh;simp only[at_]
 rfl
def zR (ih:Ay R L):FR R L:=by
 intro k n i dd wa ws F G H Q E hk hi hd hn hL hs z q;subst hi hd;have hel:((ws.map v6).length:Int)=(ws.length:Int):=by rw[cr]
 delta cP;right
 by_cases hlt:n<ws.length
 rotate_left
 .have hnl:n=ws.length:=by omega
  rw[zP (getElem?_eq_none nofun)]at q;refine aG (decide_eq_true (by rw[hel];omega)) ?_;right;rename_i p H2 z2;exact aX (S:=[]) q (by rw[hel,hnl]) nofun z2
 refine aD (decide_eq_false (by rw[hel];omega)) ?_;obtain⟨w,ew⟩:∃ w,ws[n]? =some w:=⟨_,li hlt⟩;have eI:fH (ws.map v6) (n:Int)=some (v6 w):=L2.bL (by rw[jp,ew];rfl);have at_:∀ v,isAt ws n v=decide (w=v):=λv=>by
  unfold isAt;rw[ew,Bool.eq_iff_iff,decide_eq_true_eq,decide_eq_true_eq,Option.some.injEq]
 unfold cy at q;simp only[at_]at q;right;refine aT z.at eI ?_;right;rw[ED]
 by_cases g1:w=Str.ofString "do"
 .refine aG (decide_eq_true g1) ?_;rw[if_pos (by rw[g1];exact decide_eq_true rfl)]at q;unfold zt at q;rw[Dk]at q;have hw:(jB ws (n+1)).length<=100000:=sh hs;right;rename_i l1 H1 z1;refine di z1 (z1.get .k1) z1.at (by show _+1<=100000;omega) λl2 H2 z2=>?_
  right;refine aT z2.at (qJ (n:=n+1) nofun nofun) ?_;have z3:=z2.drop.drop;have hl2:jB ws (n+1)≠Str.ofString ""->n+1<ws.length:=λh=>by
   unfold jB at h;cases e:ws[n+1]? with
   |some v=>exact(sK.mp e).1
   |none=>rw[e]at h;exact absurd rfl h
  clear z z1 z2;have hmt:(Str.ofString "").length=0:=by decide+kernel
  generalize jB ws (n+1)=w at hw hl2 q;right;have no:jF w=false->EL wa ws G F Q (n+1):=λe=>by rw[e]at q;exact q
  refine eL (z:=w) hw ?_;right;refine aN (λh1=>?_) (λh1=>?_)
  rotate_left
  .right;rename_i p H4 z4;exact aX (S:=[]) (no (by unfold jF;rw[decide_eq_false nofun];rfl)) nofun nofun z4
  right;refine aN (λh2=>?_) (λh2=>?_)
  rotate_left
  .right;rename_i p H4 z4;exact aX (S:=[]) (no (by unfold jF;rw[decide_eq_true nofun,decide_eq_false nofun];rfl)) nofun nofun z4
  right;have hz:w.cps.size=w.length:=rfl;refine lP (z:=w) nofun (λD ys H=>ys=(w.cps.toList.map λc=>V.bl (isA c)).take ys.length/\Sep (pt D (wl ys)::pt wa (wl (ws.map v6))::(G++F)) H) (λD hD=>⟨rfl,z3.new (o:=wl []) hD⟩) (λD ys c H hc hI=>?_) (λD ys H hl hI=>?_)
  .obtain⟨e,z4⟩:=hI;have hcm:w.cps.toList[ys.length]? =some c:=by rw[Array.getElem?_toList];exact hc
   have hyl:ys.length<w.cps.size:=(Array.getElem?_eq_some_iff.mp hc).1;left;refine xS ?_;refine oB.mk z4.at nofun ⟨?_,z4.set rfl⟩;rw[db,gt,take_add_one,<-e,jp,hcm]
   rfl
  obtain⟨e,z4⟩:=hI;rw[hl,take_of_length_le (by rw[cr,Array.length_toList];exact re _)]at e;subst e;have eB:(w.cps.toList.map λc=>V.bl (isA c))=(w.cps.toList.map isA).map V.bl:=by rw[List.map_map];rfl
  have z5:=z4.drop;rw[eB]at z4;left;refine Fj (aP.of z4.at) rfl (by rw[all_eq_true];intro x hx;obtain⟨b,_,rfl⟩:=List.mem_map.mp hx;rfl) ?_;rw[il,show(w.cps.toList.map isA).all id=w.cps.toList.all isA by rw[List.all_map];rfl];have en:jF w=w.cps.toList.all isA:=by unfold jF;rw[decide_eq_true nofun,decide_eq_true nofun];rfl
  clear z4 z3;cases g:w.cps.toList.all isA with
  |false=>
   right;rename_i p H4 z6;exact aX (S:=[]) (no (en.trans g)) nofun nofun z6
  |true=>
   have h4:=hl2 (λe=>by rw[e,hmt]at h1;omega);rw[en.trans g]at q;have q:uC wa ws L G F Q (.ok (.dO w) (n+2)):=q;right;rename_i d H4 z6 p H5 z7;have z8:=((z7.pull .k1).toT.pull .k1).toT;refine q p d [tu p [ut d,v0 ((n+2:Nat):Int)],tu d [v6 (Str.ofString "do"),v6 w]] H5 nofun lv (by cases L<;>exact⟨d,rfl,f8 _ lv⟩) ?_;exact dy (P:=[]) (L:=[tu p _,tu d _]) (Δ:=[]) (G:=pt wa (wl (ws.map v6))::G) z8
 refine aD (decide_eq_false g1) ?_;rw[if_neg (by simpa using g1)]at q;right;refine aT z.at eI ?_;right;rw[ED]
 by_cases g2:w=Str.ofString "times"
 .refine aG (decide_eq_true g2) ?_;rw[if_pos (by rw[g2];exact decide_eq_true rfl)]at q;unfold Hn at q;right;refine d7 (n:=n+1) nofun nofun nofun hL hs z λH1 z1=>?_
  cases e1:aR ws (n+1) 0 9 with
  |none=>
   rw[e1]at q;left;refine aB ?_;right;rename_i p H2 z2;exact aX (S:=[]) q nofun nofun z2
  |some o=>
   have h1:n+1<ws.length:=by
    obtain⟨w,hw⟩:=cM (av e1).2.2;exact(sK.mp hw).1
   rw[e1]at q;have q:uC wa ws L G F Q (match aW ws L (n+2) with| .no e=>.no e| .ok b e=>.ok (.tms o b) e):=q;left;refine aB ?_;right;refine ih (n:=n+2) (G:=G) nofun nofun nofun nofun hL hs z1 ?_;cases eB:aW ws L (n+2) with
   |no m=>
    rw[eB]at q;intro t Δ H2 hm ht z2;left;refine⟨_,_,rfl,.inl (a5.of (fj (G:=pt wa (wl (ws.map v6))::G) ht z2)),rfl,?_⟩;left;refine aB ?_;right;rename_i p H3 z3;exact ft (S:=[]) q rfl hm z3
   |ok b e=>
    rw[eB]at q;cases L with
    |zero=>cases eB
    |succ L=>
     intro t l vs Δ H2 he ht hl al z2;left;refine⟨_,_,rfl,.inl (a5.of (fj (G:=pt wa (wl (ws.map v6))::G) ht z2)),rfl,?_⟩;left;refine aB ?_;right;rename_i d H6 z6 p H7 z7;have z8:=((z7.pull .k1).toT.pull .k1).toT;have z9:Sep (tu p [ut d,v0 (e:Int)]::tu d [v6 (Str.ofString "times"),v0 o,ut l]::pt wa (wl (ws.map v6))::(G++(Δ++F))) H7:=z8;have up:∀ A,A ∈ Δ++F->A ∈ ([tu p [ut d,v0 (e:Int)],tu d [v6 (Str.ofString "times"),v0 o,ut l]]++Δ)++F:=λA h=>f8 _ (f8 _ h)
     refine q p d _ H7 he lv ⟨d,l,vs,rfl,f8 _ lv,up _ hl,al.map λv i=>eP.mono up⟩ ?_;exact dy (P:=[]) (L:=[tu p _,tu d _]) (Δ:=Δ) (G:=pt wa (wl (ws.map v6))::G) z9
 refine aD (decide_eq_false g2) ?_;rw[if_neg (by simpa using g2)]at q;right;refine aT z.at eI ?_;right;rw[ED]
 by_cases g3:w=Str.ofString "when"
 .refine aG (decide_eq_true g3) ?_;rw[if_pos (by rw[g3];exact decide_eq_true rfl)]at q;right;exact A4 ih nofun hlt hL hs z q
 refine aD (decide_eq_false g3) ?_;rw[if_neg (by simpa using g3)]at q;right;exact AN (L:=L) nofun hlt hL hs z q
end
abbrev vo (I:Nat->Rd Itm)(ws:List Str):Nat->Nat->List Itm->Rd (List Itm)
 |0,e,_=>.no e
 |k+1,e,acc=>match I (e+1) with
  | .no e=>.no e
  | .ok i e=>if isAt ws e cD then .ok (acc++[i]) (e+1) else if isAt ws e cR then vo I ws k e (acc++[i]) else .no e
def DA {I:Nat->Rd Itm}{ws:List Str}:∀ {k e:Nat}{acc:List Itm},gN I ws k e acc=if isAt ws e cD then .ok acc (e+1) else if isAt ws e cR then vo I ws k e acc else .no e:=by
 intro k
 induction k with
 |zero=>
  intro e acc;show(if isAt ws e cD then _ else _)=_;cases isAt ws e cD<;>cases isAt ws e cR<;>rfl
 |succ k ih=>
  intro e acc;show(if isAt ws e cR then(match I (e+1) with| .no e=>Rd.no e| .ok i e=>gN I ws k e (acc++[i])) else if isAt ws e cD then Rd.ok acc (e+1) else Rd.no e)=_
  by_cases h:isAt ws e cR=true
  .have h2:¬ isAt ws e cD=true:=by
    intro h2;have e1:=of_decide_eq_true h;have e2:=of_decide_eq_true h2;rw[e1]at e2;exact absurd (Option.some.inj e2) (by decide+kernel)
   rw[if_pos h,if_neg h2,if_pos h];show _=(match I (e+1) with| .no e=>Rd.no e| .ok i e=>if isAt ws e cD then Rd.ok (acc++[i]) (e+1) else if isAt ws e cR then vo I ws k e (acc++[i]) else Rd.no e);cases I (e+1) with
   |no e=>rfl
   |ok i e=>exact ih
  .rw[if_neg h,if_neg h]
section
variable {wa:Addr}{ws:List Str}{n L:Nat}{F G:List ai}
def oh (ih:∀ M,L=M+1->FR R M):Ay R L:=by
 intro k n i dd wa ws F G H Q E hk hi hd hn hL hs z q;subst hi hd;have hel:((ws.map v6).length:Int)=(ws.length:Int):=by rw[cr]
 delta bY;have bad:∀ {p:Addr}{H:Hp},aW ws L n=Rd.no n->Sep (pt p (wn [wf,v0 (min (n:Int) ((ws.map v6).length:Int))])::pt wa (wl (ws.map v6))::(G++F)) H->Q (ut p) H:=λ{p H} e z2=>by
  rw[e]at q;exact aX (S:=[]) q (by rw[hel];omega) nofun z2
 right
 by_cases hlt:n<ws.length
 rotate_left
 .refine aG (decide_eq_true (by rw[hel];omega)) ?_;right;rename_i p H2 z2;refine bad ?_ z2;cases L with
  |zero=>rfl
  |succ L=>
   show lO _ ws n=_;unfold lO isAt;rw[getElem?_eq_none nofun]
   rfl
 refine aD (decide_eq_false (by rw[hel];omega)) ?_;obtain⟨w,ew⟩:∃ w,ws[n]? =some w:=⟨_,li hlt⟩;have eI:fH (ws.map v6) (n:Int)=some (v6 w):=L2.bL (by rw[jp,ew];rfl);right;refine aT z.at eI ?_;right;rw[ED]
 by_cases g1:w=Str.ofString "("
 rotate_left
 .refine aD (decide_eq_false g1) ?_;right;rename_i p H2 z2;refine bad ?_ z2;cases L with
  |zero=>rfl
  |succ L=>
   show lO _ ws n=_;unfold lO isAt;rw[ew,if_neg (by simpa using g1)]
 refine aG (decide_eq_true g1) ?_;right;cases L with
 |zero=>
  refine aG (decide_eq_true (by decide)) ?_;right;rename_i p H2 z2;exact bad rfl z2
 |succ L=>
  refine aD (decide_eq_false nofun) ?_;clear bad;have q:G9 wa ws L G F Q (lO (cy (aW ws L) ws) ws n):=q;unfold lO at q;rw[show isAt ws n ij=true by unfold isAt;rw[ew,g1];exact decide_eq_true rfl]at q;have q:G9 wa ws L G F Q (if isAt ws (n+1) cD then .ok [] (n+2) else ir (cy (aW ws L) ws) ws (n+1)):=q;right;rename_i p1 H1 z1 p2 H2 z2;refine w4 (n:=n+1) (z2.get .k1) z2.at z2.ne.symm nofun nofun ?_;cases h1:isAt ws (n+1) cD with
  |true=>
   have hl1:n+1<ws.length:=(sK.mp (of_decide_eq_true h1)).1;rw[h1]at q;right;rename_i l H3 z3 p H4 z4;have z5:Sep (tu p [ut l,v0 ((n+2:Nat):Int)]::pt l (wl [])::pt wa (wl (ws.map v6))::(G++F)) H4:=z4.toT.sub (.cons .e (.cons .e (.drop (.drop .refl))));refine q p l [] [tu p [ut l,v0 ((n+2:Nat):Int)],pt l (wl [])] H4 nofun lv (f8 _ lv) .nil ?_;exact dy (P:=[]) (L:=[tu p _,pt l _]) (Δ:=[]) (G:=pt wa (wl (ws.map v6))::G) z5
  |false=>
   rw[h1]at q;have q:G9 wa ws L G F Q (ir (cy (aW ws L) ws) ws (n+1)):=q;have eG:ir (cy (aW ws L) ws) ws (n+1)=vo (cy (aW ws L) ws) ws 24 n []:=by
    unfold ir;show _=(match cy (aW ws L) ws (n+1) with| .no e=>Rd.no e| .ok i e=>if isAt ws e cD then Rd.ok ([]++[i]) (e+1) else if isAt ws e cR then vo (cy (aW ws L) ws) ws 23 e ([]++[i]) else Rd.no e);cases cy (aW ws L) ws (n+1) with
    |no e=>rfl
    |ok i e=>exact DA
   rw[eG]at q;generalize hres:vo (cy (aW ws L) ws) ws 24 n []=res at q;have z3:=z2.drop.drop;clear z z1 z2 eG;right;rename_i fd H3 z4;refine eg (n:=24) (λj U H=>∃ (acc:List Itm) (e:Nat) (vs:List V) (Δ:List ai) (u4 u5:Option V),U=[some (ut wa),some (v0 (e:Int)),some (v0 (5-((L+1:Nat):Int))),some (ut fd),u4,u5]/\acc.length=j/\e<ws.length/\vo (cy (aW ws L) ws) ws (24-j) e acc=res/\d8 (eP (Δ++F) L) vs acc/\Sep (pt fd (wl vs)::pt wa (wl (ws.map v6))::(G++(Δ++F))) H) ?_ ?_ ?_
   .exact⟨[],n,[],[],_,_,rfl,rfl,hlt,hres,.nil,z4⟩
   .rintro j U H5 hj ⟨acc,e,vs,Δ,u4,u5,rfl,ha,he,er,al,z5⟩;have hv:=al.1;obtain⟨m,em⟩:∃ m,24-j=m+1:=⟨23-j,by omega⟩;rw[em]at er;have er:(match cy (aW ws L) ws (e+1) with| .no e=>Rd.no e| .ok i e=>if isAt ws e cD then .ok (acc++[i]) (e+1) else if isAt ws e cR then vo (cy (aW ws L) ws) ws m e (acc++[i]) else .no e)=res:=er;right;refine ih L rfl (n:=e+1) (G:=pt fd (wl vs)::G) (F:=Δ++F) nofun nofun nofun nofun hL hs (z5.pull .k1) ?_;cases eJ:cy (aW ws L) ws (e+1) with
    |no m2=>
     rw[eJ]at er;have er:Rd.no m2=res:=er;rw[<-er]at q;intro t Δ2 H6 hm ht z6;left;refine⟨_,_,rfl,.inl (a5.of (fj (G:=pt wa (wl (ws.map v6))::pt fd (wl vs)::G) ht z6)),rfl,?_⟩;left;refine aB ?_;right;rename_i p H7 z7;exact ft (S:=[]) (Δ:=Δ2++Δ) q rfl hm (by rw[lf];exact z7.sub (.cons .e (.cons .e (.drop .refl))))
    |ok i e2=>
     rw[eJ]at er;intro t d Δ2 H6 he2 ht sp z6;left;refine⟨_,_,rfl,.inl (a5.of (fj (G:=pt wa (wl (ws.map v6))::pt fd (wl vs)::G) ht z6)),rfl,?_⟩;left;refine aB ?_;right;refine⟨fd,vs,rfl,z6.get .k1,?_⟩;left;refine⟨vs,z6.get .k1,fZ z6 (.t .e) nofun λH7 z7=>?_⟩;have uW:d8 (eP ((Δ2++Δ)++F) L) (vs++[ut d]) (acc++[i]):=by
      rw[lf];exact(al.map λv i=>eP.mono λA=>k9).snoc sp
     have z8:Sep (pt fd (wl (vs++[ut d]))::pt wa (wl (ws.map v6))::(G++((Δ2++Δ)++F))) H7:=by rw[lf];exact z7.pull .k1
     clear z5 z6 z7;right;rename_i p1 H8 z9 p2 H9 zA;refine w4 (n:=e2) (zA.get .k1) zA.at zA.ne.symm rfl rfl ?_;have zB:=zA.drop.drop;clear z8 z9;cases h2:isAt ws e2 cD with
     |true=>
      have hl2:e2<ws.length:=(sK.mp (of_decide_eq_true h2)).1;have er:(if isAt ws e2 cD then Rd.ok (acc++[i]) (e2+1) else if isAt ws e2 cR then vo (cy (aW ws L) ws) ws m e2 (acc++[i]) else .no e2)=res:=er;rw[h2]at er;have er:Rd.ok (acc++[i]) (e2+1)=res:=er;rw[<-er]at q;clear zA;right;rename_i p HB zC;have zD:Sep (tu p [ut fd,v0 ((e2+1:Nat):Int)]::pt fd (wl (vs++[ut d]))::pt wa (wl (ws.map v6))::(G++((Δ2++Δ)++F))) HB:=zC.toT;have up:∀ A,A ∈ (Δ2++Δ)++F->A ∈ ([tu p [ut fd,v0 ((e2+1:Nat):Int)],pt fd (wl (vs++[ut d]))]++(Δ2++Δ))++F:=λA h=>f8 _ (f8 _ h)
      refine q p fd (vs++[ut d]) _ HB nofun lv (f8 _ lv) (uW.map λv i=>eP.mono up) ?_;exact dy (P:=[]) (L:=[tu p _,pt fd _]) (Δ:=Δ2++Δ) (G:=pt wa (wl (ws.map v6))::G) zD
     |false=>
      have er:(if isAt ws e2 cD then Rd.ok (acc++[i]) (e2+1) else if isAt ws e2 cR then vo (cy (aW ws L) ws) ws m e2 (acc++[i]) else .no e2)=res:=er;rw[h2]at er;have er:(if isAt ws e2 cR then vo (cy (aW ws L) ws) ws m e2 (acc++[i]) else Rd.no e2)=res:=er;clear zA;right;rename_i p3 HB zC p4 HC zD;refine B9 (n:=e2) (zD.get .k1) zD.at zD.ne.symm rfl rfl ?_;cases h3:isAt ws e2 cR with
      |true=>
       have hl2:e2<ws.length:=(sK.mp (of_decide_eq_true h3)).1;rw[h3]at er;right;exact⟨acc++[i],e2,vs++[ut d],Δ2++Δ,_,_,rfl,by rw[db,gt,ha],hl2,by rw[show 24-(j+1)=m by omega];exact er,uW,zD.drop.drop⟩
      |false=>
       rw[h3]at er;have er:Rd.no e2=res:=er;rw[<-er]at q;right;rename_i p HD zE;exact ft (S:=[_,_,_]) (Δ:=Δ2++Δ) q (by rw[hel];omega) he2 zE
   .rintro U H5 ⟨acc,e,vs,Δ,u4,u5,rfl,ha,he,er,al,z5⟩;have er:Rd.no e=res:=er;rw[<-er]at q;right;rename_i p H6 z6;exact ft (S:=[_]) q rfl nofun z6
def Ca:∀ L,Ay R L
 |0=>oh λM e=>absurd e nofun
 |L+1=>oh λM e=>by cases e;exact zR (Ca L)
end
def Io (ok:r.ok):az r.zs<=12*r.zs.length:=by
 have nm:∀ b:Bn,b.nm.length<=5:=λb=>by cases b<;>decide+kernel
 have nl:∀ {i:Int},i.natAbs<=1000000000->(nw i).length<=11:=λh=>(jR h).1
 have t0:az []=0:=rfl;cases r with
 |lg w=>cases w<;>decide+kernel
 |sp s=>
  cases s with
  |set b i=>
   have ok: -1000000000<=i/\i<=1000000000:=ok;have h1:=nm b;have h2:=nl (i:=i) nofun;show az [("set":Str),b.nm,nw i]<=12*3;rw[aa,aa,aa,show("set":Str).length=3 by decide+kernel,t0]
   omega
  |add b i=>
   have ok: -1000000000<=i/\i<=1000000000:=ok;have h1:=nm b;have h2:=nl (i:=i) nofun;show az [("add":Str),b.nm,nw i]<=12*3;rw[aa,aa,aa,show("add":Str).length=3 by decide+kernel,t0]
   omega
  |take b c=>
   have h1:=nm b;have h2:=nm c;show az [("take":Str),b.nm,c.nm]<=12*3;rw[aa,aa,aa,show("take":Str).length=4 by decide+kernel,t0]
   omega
  |read b=>
   have h1:=nm b;show az [("read":Str),b.nm]<=12*2;rw[aa,aa,show("read":Str).length=4 by decide+kernel,t0]
   omega
  |write b=>
   have h1:=nm b;show az [("write":Str),b.nm]<=12*2;rw[aa,aa,show("write":Str).length=5 by decide+kernel,t0]
   omega
 |hop n o=>
  have ok:(0<=n/\n<=24)/\CJ o:=ok;have h1:=nl (i:=n) nofun;cases o with
  |none=>
   show az [("hop":Str),nw n]<=12*2;rw[aa,aa,show("hop":Str).length=3 by decide+kernel,t0]
   omega
  |some i=>
   have ho:i=0\/i=1:=ok.2;have h2:=nl (i:=i) nofun;show az [("hop":Str),nw n,("if":Str),nw i]<=12*4;rw[aa,aa,aa,aa,show("hop":Str).length=3 by decide+kernel,show("if":Str).length=2 by decide+kernel,t0]
   omega
abbrev j3 (zs:List Str)(n m:Nat):Prop:=zs.length+n<=m/\az zs+12*n<=12*m
def F3:az []=0:=rfl
def j3.app {a b:List Str}{p:Nat}(h1:j3 a n m)(h2:j3 b m p):j3 (a++b) n p:=by
 obtain⟨a1,a2⟩:=h1;obtain⟨b1,b2⟩:=h2;refine⟨?_,?_⟩
 .rw[db];omega
 .rw[au];omega
def j3.one {w:Str}(h:w.length<=11):j3 [w] n (n+1):=⟨by rw[gt];omega,by rw[aa,F3];omega⟩
def j3.cons {w:Str}{b:List Str}{n m:Nat}(h:w.length<=11)(h2:j3 b (n+1) m):j3 (w::b) n m:=j3.app (a:=[w]) (.one h) h2
section
variable {ws:List Str}{n m:Nat}
def rY (hf:∀ b i,-1000000000<=i->i<=1000000000->(Rw.sp (f b i)).ok/\(Rw.sp (f b i)).zs.length=3) (h:oa f ws (n+1)=.ok r m):r.ok/\r.zs.length+n<=m:=by
 unfold oa at h;cases e1:bE ws (n+1) with
 |none=>rw[e1]at h;cases h
 |some b=>
  rw[e1]at h;cases e2:aR ws (n+1+1) (-1000000000) 1000000000 with
  |none=>
   have h:(match aR ws (n+1+1) (-1000000000) 1000000000 with|none=>Rd.no (n+2)|some i=>Rd.ok (Rw.sp (f b i)) (n+3))=Rd.ok r m:=h;rw[e2]at h;cases h
  |some i=>
   have h:(match aR ws (n+1+1) (-1000000000) 1000000000 with|none=>Rd.no (n+2)|some i=>Rd.ok (Rw.sp (f b i)) (n+3))=Rd.ok r m:=h;rw[e2]at h;cases h;obtain⟨i1,i2,_⟩:=av e2;obtain⟨h1,h2⟩:=hf b i i1 i2;exact⟨h1,by omega⟩
def zO (h:uu ws (n+1)=.ok r m):r.ok/\r.zs.length+n<=m:=by
 unfold uu at h;cases e1:bE ws (n+1) with
 |none=>rw[e1]at h;cases h
 |some b=>
  rw[e1]at h;have h:(match bE ws (n+2) with|none=>Rd.no (n+2)|some c=>Rd.ok (Rw.sp (.take b c)) (n+3))=Rd.ok r m:=h;cases e2:bE ws (n+2) with
  |none=>rw[e2]at h;cases h
  |some c=>
   rw[e2]at h;cases h;exact⟨True.intro,by show 3+n<=n+3;omega⟩
def rP {f:Bn->Sp}(hf:∀ b,(Rw.sp (f b)).ok/\(Rw.sp (f b)).zs.length=2) (h:nM f ws (n+1)=.ok r m):r.ok/\r.zs.length+n<=m:=by
 unfold nM at h;cases e1:bE ws (n+1) with
 |none=>rw[e1]at h;cases h
 |some b=>
  rw[e1]at h;cases h;obtain⟨h1,h2⟩:=hf b;exact⟨h1,by omega⟩
def xt (h:iV ws (n+1)=.ok r m):r.ok/\r.zs.length+n<=m:=by
 unfold iV at h;cases e1:aR ws (n+1) 0 24 with
 |none=>rw[e1]at h;cases h
 |some i=>
  obtain⟨i1,i2,_⟩:=av e1;rw[e1]at h;have h:(if isAt ws (n+2) "if" then(match aR ws (n+3) 0 1 with|none=>Rd.no (n+3)|some o=>Rd.ok (Rw.hop i (some o)) (n+4)) else Rd.ok (Rw.hop i none) (n+2))=Rd.ok r m:=h;cases g:isAt ws (n+2) "if" with
  |false=>
   rw[g]at h;have h:Rd.ok (Rw.hop i none) (n+2)=Rd.ok r m:=h;cases h;exact⟨⟨⟨i1,i2⟩,True.intro⟩,by show 2+n<=n+2;omega⟩
  |true=>
   rw[g]at h;have h:(match aR ws (n+3) 0 1 with|none=>Rd.no (n+3)|some o=>Rd.ok (Rw.hop i (some o)) (n+4))=Rd.ok r m:=h;cases e2:aR ws (n+3) 0 1 with
   |none=>rw[e2]at h;cases h
   |some o=>
    obtain⟨o1,o2,_⟩:=av e2;rw[e2]at h;cases h;exact⟨⟨⟨i1,i2⟩,(by omega:o=0\/o=1)⟩,by show 4+n<=n+4;omega⟩
def DO (h:og ws n=.ok r m):r.ok/\r.zs.length+n<=m:=by
 unfold og at h
 split at h
 .exact rY (f:=.set) (λb i h1 h2=>⟨⟨h1,h2⟩,rfl⟩) h
 split at h
 .exact rY (f:=.add) (λb i h1 h2=>⟨⟨h1,h2⟩,rfl⟩) h
 split at h
 .exact zO h
 split at h
 .exact rP (f:=.read) (λb=>⟨True.intro,rfl⟩) h
 split at h
 .exact rP (f:=.write) (λb=>⟨True.intro,rfl⟩) h
 split at h
 .exact xt h
 unfold uh at h;have one:∀ w:Wd,Rd.ok (Rw.lg w) (n+1)=Rd.ok r m->r.ok/\r.zs.length+n<=m:=λw h=>by
  cases h;exact⟨True.intro,by show 1+n<=n+1;omega⟩
 repeat(split at h;exact one _ h)
 cases h
def AG (h:og ws n=.ok r m):j3 r.zs n m:=by
 obtain⟨ok,hl⟩:=DO h;have h2:=Io ok;exact⟨hl,by omega⟩
abbrev G6 (ws:List Str)(L:Nat):Prop:=∀ n b m,aW ws L n=.ok b m->j3 (dQ (L-1) b) n m
abbrev FF (ws:List Str)(L:Nat):Prop:=∀ n i m,cy (aW ws L) ws n=.ok i m->j3 (aK L i) n m
def BR (h:aR ws n lo hi=some i)(h1: -1000000000<=lo)(h2:hi<=1000000000):(nw i).length<=11:=by
 obtain⟨a,b,_⟩:=av h;exact(jR (i:=i) nofun).1
def pP:(ij).length<=11/\(cD).length<=11/\(cR).length<=11/\(uS).length<=11/\(zN).length<=11/\(pT).length<=11/\(sY).length<=11:=by decide+kernel
def nU {L:Nat}(ih:G6 ws L):FF ws L:=by
 obtain⟨k1,k2,k3,k4,k5,k6,k7⟩:=pP;intro n i m h;unfold cy at h
 split at h
 .unfold zt at h;cases e:AY ws (n+1) with
  |none=>rw[e]at h;cases h
  |some w=>
   rw[e]at h;cases h;have hw:w.length<=8:=by
    unfold AY at e;cases e2:ws[n+1]? with
    |none=>rw[e2]at e;cases e
    |some v=>
     rw[e2]at e;have e:(if jF v then some v else none)=some w:=e
     by_cases g:jF v=true
     .rw[if_pos g]at e;cases e;exact(qb g).1.2
     .rw[if_neg g]at e;cases e
   have f:j3 [uS,w] n (n+1+1):=.cons k4 (.one nofun);cases L<;>exact f
 split at h
 .unfold Hn at h;cases e:aR ws (n+1) 0 9 with
  |none=>rw[e]at h;cases h
  |some o=>
   rw[e]at h;have h:(match aW ws L (n+2) with| .no e=>Rd.no e| .ok b e=>Rd.ok (Itm.tms o b) e)=Rd.ok i m:=h;cases eB:aW ws L (n+2) with
   |no e=>rw[eB]at h;cases h
   |ok b e=>
    rw[eB]at h;cases h;cases L with
    |zero=>cases eB
    |succ L=>exact .cons k5 (.cons (BR e (by decide) (by decide)) (ih _ _ _ eB))
 split at h
 .unfold GF at h;cases e:aR ws (n+1) 0 1 with
  |none=>rw[e]at h;cases h
  |some o=>
   rw[e]at h;have h:(match aW ws L (n+2) with| .no e=>Rd.no e| .ok b e=>w6 (aW ws L) ws o b e)=Rd.ok i m:=h;cases eB:aW ws L (n+2) with
   |no e=>rw[eB]at h;cases h
   |ok b e2=>
    rw[eB]at h;cases L with
    |zero=>cases eB
    |succ L=>
     have fb:=ih _ _ _ eB;have h:(if isAt ws e2 sY then(match aW ws (L+1) (e2+1) with| .no e=>Rd.no e| .ok c e=>Rd.ok (Itm.whn o b c) e) else Rd.ok (Itm.whn o b []) e2)=Rd.ok i m:=h;have w1:=BR e (by decide) (by decide)
     by_cases g:isAt ws e2 sY=true
     .rw[if_pos g]at h;cases eC:aW ws (L+1) (e2+1) with
      |no e=>rw[eC]at h;cases h
      |ok c e3=>
       rw[eC]at h;cases h;have fc:j3 (kF (c.map (aK L))) e2 m:=by
        have f:j3 (sY::tS (c.map (aK L))) e2 m:=.cons k7 (ih _ _ _ eC);unfold kF
        by_cases g0:(c.map (aK L)).length=0
        .rw[if_pos g0];obtain⟨f1,f2⟩:=f;rw[length_cons]at f1;exact⟨by show 0+e2<=m;omega,by rw[F3];omega⟩
        .rw[if_neg g0];exact f
       exact .cons k6 (.cons w1 (fb.app fc))
     .rw[if_neg g]at h;cases h;have fc:j3 (kF (([]:List Itm).map (aK L))) m m:=⟨by show 0+m<=m;omega,by show 0+12*m<=12*m;omega⟩;exact .cons k6 (.cons w1 (fb.app fc))
 .cases e:og ws n with
  |no e2=>rw[e]at h;cases h
  |ok r e2=>
   rw[e]at h;cases h;cases L<;>exact AG e
def CF {L:Nat}(ih:FF ws L):∀ {k e:Nat}{acc b:List Itm},acc≠[]->j3 (ij::aL (acc.map (aK L))) n e->gN (cy (aW ws L) ws) ws k e acc=.ok b m->j3 (dQ L b) n m:=by
 obtain⟨k1,k2,k3,k4,k5,k6,k7⟩:=pP;intro k;have last:∀ {e:Nat}{acc b:List Itm},j3 (ij::aL (acc.map (aK L))) n e->(if isAt ws e cD then Rd.ok acc (e+1) else Rd.no e)=Rd.ok b m->j3 (dQ L b) n m:=λ{e acc b} f h=>by
  by_cases g:isAt ws e cD=true
  .rw[if_pos g]at h;cases h;exact f.app (.one k2)
  .rw[if_neg g]at h;cases h
 induction k with
 |zero=>intro e acc b _ f h;exact last f h
 |succ k ihk=>
  intro e acc b ha f h;have h:(if isAt ws e cR then(match cy (aW ws L) ws (e+1) with| .no e=>Rd.no e| .ok i e=>gN (cy (aW ws L) ws) ws k e (acc++[i])) else if isAt ws e cD then Rd.ok acc (e+1) else Rd.no e)=Rd.ok b m:=h
  by_cases g:isAt ws e cR=true
  .rw[if_pos g]at h;cases eI:cy (aW ws L) ws (e+1) with
   |no e2=>rw[eI]at h;cases h
   |ok i e2=>
    rw[eI]at h;refine ihk (acc:=acc++[i]) (by simp) ?_ h;rw[ge,show[i].map (aK L)=[aK L i] from rfl,et,if_neg (by rw[cr];exact λe=>ha (List.eq_nil_of_length_eq_zero e))];exact f.app (.cons k3 (ih _ _ _ eI))
  .rw[if_neg g]at h;exact last f h
def lx:∀ L,G6 ws L
 |0=>λn b m h=>by cases h
 |L+1=>λn b m h=>by
  obtain⟨k1,k2,k3,k4,k5,k6,k7⟩:=pP;have h:(if isAt ws n ij then(if isAt ws (n+1) cD then Rd.ok [] (n+2) else ir (cy (aW ws L) ws) ws (n+1)) else Rd.no n)=Rd.ok b m:=h
  by_cases g:isAt ws n ij=true
  .rw[if_pos g]at h
   by_cases g2:isAt ws (n+1) cD=true
   .rw[if_pos g2]at h;cases h;exact .cons k1 (.one k2)
   .rw[if_neg g2]at h;unfold ir at h;cases eI:cy (aW ws L) ws (n+1) with
    |no e2=>rw[eI]at h;cases h
    |ok i e2=>
     rw[eI]at h;refine CF (nU (lx L)) (acc:=[i]) (by simp) ?_ h;have f:=(nU (lx L)) _ _ _ eI;have es:aL ([i].map (aK L))=aK L i:=by show aK L i++[]=_;rw[append_nil]
     rw[es];exact .cons k1 f
  .rw[if_neg g]at h;cases h
end
def zu {b:Addr}(ha:H a=some (wn xs))(hb:H b=some (wn ys))(hl:xs.length=ys.length)(h:∀ (j:Nat) (x y:V),xs[j]? =some x->ys[j]? =some y->eZ K H (n+1) x y true):eZ K H (n+2) (ut a) (ut b) true:=by
 have z:=eZ.tt (K:=K) (e:=λ_=>true) (a5.of ha) (a5.of hb) h
 rwa [show((List.range (min xs.length ys.length)).all (λ_=>true)&&xs.length ==ys.length)=true by simp[hl]]at z
def sP (h:aE v=true):eZ K H n v v true:=by
 have z:=eZ.flat (K:=K) (H:=H) (n:=n) h h
 rwa [f9 h]at z
def pj {A:ai}{Δ F:List ai}:∀ {G Γ':List ai},aw A (G++F) Γ'->∃ Γ2,aw A (G++(Δ++F)) Γ2
 | [],_,h=>⟨_,ah (L:=Δ) (O:=F) h⟩
 |B::G,_,h=>by
  cases h with
  |e=>exact⟨_,.e⟩
  |t h=>
   obtain⟨Γ2,p⟩:=pj (G:=G) h;exact⟨_,.t p⟩
def yb:∀ {L O:List ai}{H:Hp},Sep (L++O) H->Sep O H
 | [],_,_,z=>z
 |_::_,_,_,z=>yb z.drop
def xM {G F:List ai}(z:Sep (G++(Δ++F)) H):Sep (G++F) H:=yb (toF (L:=G) (G:=Δ) (F:=F) z)
def sj {b:Addr}{n m:Int}(e:n=m)(h1:H a=some (wn [v6 (Str.ofString "none"),v0 n])) (h2:H b=some (wn [v6 (Str.ofString "none"),v0 m])):eZ K H 2 (ut a) (ut b) true:=by
 subst e;exact zu (n:=0) h1 h2 rfl λj x y e1 e2=>by
  rcases j with _|_|j
  .cases e1;cases e2;exact sP rfl
  .cases e1;cases e2;exact sP rfl
  .simp at e1
section
variable {ws:List Str}{t:Str}{F G:List ai}
abbrev I0 (G F:List ai)(Q:VK):Rd (List Itm)->Prop
 | .ok b m=>∀ p l vs Δ H',tu p [ut l,v0 (m:Int)] ∈ Δ++F->pt l (wl vs) ∈ Δ++F->d8 (eP (Δ++F) 3) vs b->Sep (G++(Δ++F)) H'->Q (ut p) H'
 | .no m=>∀ p Δ H',tu p [wf,v0 (m:Int)] ∈ Δ++F->Sep (G++(Δ++F)) H'->Q (ut p) H'
def zW (hk:17<=k)(ht:t.length<=99990)(hws:Txt.split t bM=ws)(z:Sep (G++F) H)(q:I0 G F Q (BK ws)):ae tab R k 78 [v6 t] H Q E:=by
 have e0:az ws=t.length+1:=by rw[<-hws];exact d9 t
 have hs:∀ w ∈ ws,w.length<=100000:=λw hw=>by
  have h1:=mn hw
  omega
 have hL:(ws.map v6).length<=99999:=by
  have h1:=my ws;rw[cr]
  omega
 have hel:((ws.map v6).length:Int)=(ws.length:Int):=by rw[cr]
 delta iM;unfold BK at q;right;refine⟨_,rfl,?_⟩;left;refine jZ z (by decide+kernel) nofun λwa H1 z1=>?_
 rw[show(Str.ofString " ")=bM by decide+kernel,hws]at z1;right;refine Ca 4 (n:=0) (G:=G) (F:=F) nofun rfl rfl (Nat.zero_le _) hL hs z1 ?_;cases eB:aW ws 4 0 with
 |no m=>
  rw[eB]at q;intro p Δ H2 hm ht2 z2;left;refine⟨_,_,rfl,.inl (a5.of (fj (G:=pt wa (wl (ws.map v6))::G) ht2 z2)),rfl,?_⟩;left;refine aS ?_;right;rename_i p3 H3 z3;refine q p3 (tu p3 [wf,v0 (m:Int)]::Δ) H3 lv ?_;exact dy (P:=[]) (L:=[tu p3 _]) (Δ:=Δ) (G:=G) (z3.toT.sub (.cons .e (.drop .refl)))
 |ok b m=>
  rw[eB]at q;have q:I0 G F Q (if m=ws.length then Rd.ok b m else Rd.no m):=q;intro p l vs Δ H2 hm ht2 hl2 al z2;left;refine⟨_,_,rfl,.inl (a5.of (fj (G:=pt wa (wl (ws.map v6))::G) ht2 z2)),rfl,?_⟩;left;refine aS ?_;right;rw[hel]
  by_cases h:m=ws.length
  .rw[if_pos h]at q;refine aD (decide_eq_false nofun) ?_;right;rename_i p3 H3 z3;have up:∀ A,A ∈ Δ++F->A ∈ ([tu p3 [ut l,v0 (m:Int)]]++Δ)++F:=λA h=>f8 _ h
   refine q p3 l vs (tu p3 [ut l,v0 (m:Int)]::Δ) H3 lv (up _ hl2) (al.map λv i=>eP.mono up) ?_;exact dy (P:=[]) (L:=[tu p3 _]) (Δ:=Δ) (G:=G) (z3.toT.sub (.cons .e (.drop .refl)))
  .rw[if_neg h]at q;refine aG (decide_eq_true nofun) ?_;right;rename_i p3 H3 z3;refine q p3 (tu p3 [wf,v0 (m:Int)]::Δ) H3 lv ?_;exact dy (P:=[]) (L:=[tu p3 _]) (Δ:=Δ) (G:=G) (z3.toT.sub (.cons .e (.drop .refl)))
abbrev JA (R:Rt)(G F:List ai)(Q:VK):Rd (List Itm)->Prop
 | .ok b _=>∀ p l vs Δ H',zZ 3 b->d8 (j8 R (Δ++F) 3) vs b->Sep (pt p (wn [v6 (Str.ofString "read"),ut l])::pt l (wl vs)::(G++(Δ++F))) H'->Q (ut p) H'
 | .no m=>∀ p H',Sep (pt p (wn [v6 (Str.ofString "none"),v0 (m:Int)])::(G++F)) H'->Q (ut p) H'
def pk (ro:Ro K R)(hk:26<=k)(ht:t.length<=99990)(hws:Txt.split t bM=ws)(z:Sep (G++F) H)(q:JA R G F Q (BK ws)):ae tab R k 79 [v6 t] H Q E:=by
 delta dB;right;refine yF ro (k:=k-1) nofun nofun hws z ?_;cases e:BK ws with
 |ok b m=>
  rw[e]at q;intro l vs Δ H1 okb al z1;right;rename_i P H2 z2;exact q P l vs Δ H2 okb al z2
 |no m=>
  rw[e]at q;intro ea Δ H1 z1;obtain⟨ed,z2⟩:=B0 z1;clear z1;left;refine⟨4,_,_,true,z2.at,rfl,rfl,?_⟩;right;refine yi z2 rfl z2.at (b:=false) rfl (λp H3 z3=>?_);right;rename_i P H4 z4;exact q P H4 (z4.sub (.cons .e (.drop (.drop (.drop (uR Δ))))))
def xC {ty:String}(hk:5<=k)(hv:∀ H',Sep O H'->tyName v H'=some ty) (ht:tab.subB.lookup (ty,"str")=some false) (z:Sep O H)
  (q:∀ p H',Sep (pt p (wn [v6 (Str.ofString "none"),v0 (-1)])::O) H'->Q (ut p) H'):ae tab R k 79 [v] H Q E:=by
 delta dB;right;delta c8;right;intro x dx' g1 g2 g3;have z1:=(gm (C:=R.cad 22) z g1 g2 g3).sub (Γ':=pt x (wp (R.cad 22) dx' [])::O) (.cons .e (.drop .refl));refine tF (k:=k-1-1) nofun (hv _ z1.drop) ht z1.drop (λe H1 z2=>?_);obtain⟨ed,z3⟩:=B0 z2;clear z2;left;refine⟨4,_,_,true,z3.at,rfl,rfl,?_⟩;right;refine yi z3 rfl z3.at (b:=false) rfl (λp H3 z4=>?_);right;rename_i P H4 z5;exact q P H4 (z5.sub (.cons .e (.drop (.drop (.drop .refl)))))
def hE (ro:Ro K R)(hk:27<=k)(ht:t.length<=7000)(z:Sep (G++F) H)(q:∀ H',Sep (G++F) H'->Q (.bl true) H'):ae tab R k 80 [v6 t] H Q E:=by
 have e0:=d9 t;generalize hws:Txt.split t bM=ws at e0;have hwl:=my ws;delta fR;right;refine zW (k:=k-1) nofun nofun hws z ?_;cases eF:BK ws with
 |no m=>
  intro p Δ H1 hp z1;left;refine⟨_,_,rfl,.inl (a5.of (fj (G:=G) hp z1)),rfl,?_⟩;right;refine eg (n:=2) (λj U H=>∃ u3 u4,U=[some (v6 t),some wf,some (v0 (m:Int)),u3,u4]/\Sep (G++(Δ++F)) H) ⟨_,_,rfl,z1⟩ ?_ ?_
  .rintro j U H hj ⟨u3,u4,rfl,z2⟩;right;refine pk ro (k:=k-1) nofun nofun hws z2 ?_;rw[eF];intro P H3 z3;right;refine aB ?_;right;rename_i P2 H4 z4;refine fL (n:=2) (c:=true) (sj rfl (z4.get .k1) z4.at) (by decide) (z4.pull .k1).ne ?_;right;refine aS ?_;right;exact⟨_,_,rfl,z4.drop.drop⟩
  .rintro U H ⟨u3,u4,rfl,z2⟩;right;exact q _ (xM (Δ:=Δ) z2)
 |ok b m=>
  intro p l vs Δ H1 hp hl al z1;have hm:m<=ws.length/\aW ws 4 0=.ok b m:=by
   unfold BK at eF;cases eB:aW ws 4 0 with
   |no m2=>rw[eB]at eF;cases eF
   |ok b2 m2=>
    rw[eB]at eF;have eF:(if m2=ws.length then Rd.ok b2 m2 else Rd.no m2)=Rd.ok b m:=eF
    by_cases h:m2=ws.length
    .rw[if_pos h]at eF;cases eF;exact⟨by omega,rfl⟩
    .rw[if_neg h]at eF;cases eF
  obtain⟨f1,f2⟩:j3 (dQ 3 b) 0 m:=lx 4 _ _ _ hm.2;have hm1:=hm.1;have hlen:(dQ 3 b).length<=9000:=by omega
  have htot:az (dQ 3 b)<=90000:=by omega
  obtain⟨Γ0,pl0⟩:=aI hl;have pl:aw (pt l (wl vs)) (G++(Δ++F)) (G++Γ0):=ah pl0;left;refine⟨_,_,rfl,.inl (a5.of (fj (G:=G) hp z1)),rfl,?_⟩;right;refine eg (n:=2) (λj U H=>∃ u3 u4,U=[some (v6 t),some (ut l),some (v0 (m:Int)),u3,u4]/\Sep (G++(Δ++F)) H) ⟨_,_,rfl,z1⟩ ?_ ?_
  .rintro j U H hj ⟨u3,u4,rfl,z2⟩;right;refine pk ro (k:=k-1) nofun nofun hws z2 ?_;rw[eF];intro P l2 vs2 Δ2 H3 okb uW z3;obtain⟨Γ2,p2⟩:=pj (Δ:=Δ2) (F:=Δ++F) (G:=G) pl;have G4:d8 (eP (Δ2++(Δ++F)) 3) vs b:=al.map λv i=>eP.mono λA=>k9
   right;refine aB ?_;right;refine aS ?_;right;refine vy ro 3 (k:=k-1) (G:=pt P (wn [v6 (Str.ofString "read"),ut l2])::pt l2 (wl vs2)::G) (F:=Δ2++(Δ++F)) nofun okb .k1 uW (.t (.t p2)) G4 z3 λH4 z4=>?_
   have z4:Sep (pt P (wn [v6 (Str.ofString "read"),ut l2])::pt l2 (wl vs2)::(G++(Δ2++(Δ++F)))) H4:=z4;right;refine Aj ro (k:=k-1) (n:=3) (G:=pt P (wn [v6 (Str.ofString "read"),ut l2])::pt l2 (wl vs2)::G) (F:=Δ2++(Δ++F)) nofun okb hlen nofun .k1 uW z4 λH5 z5=>?_
   right;refine wL ro 3 (k:=k-1) (G:=pt P (wn [v6 (Str.ofString "read"),ut l2])::pt l2 (wl vs2)::G) (F:=Δ2++(Δ++F)) nofun okb htot (.t (.t p2)) G4 z5 λH6 z6=>?_
   right;refine aG (f9 rfl) ?_;right;exact⟨_,_,rfl,xM (Δ:=Δ2) z6.drop.drop⟩
  .rintro U H ⟨u3,u4,rfl,z2⟩;right;exact q _ (xM (Δ:=Δ) z2)
end
section
variable {h:Addr}{m:Int}
def y0 {w:Str}(hk:2<=k)(s:Sep (hand h m::O) H)(hm:m<=1099510000000)(hw:w.length<=30000)(q:∀ (z:Str) H',z.length<=2*w.length+1->Sep (hand h (m+3)::O) H'->Q (v6 z) H'):ae tab R k 81 [ut h,v6 w] H Q E:=by
 delta iL;walk_at "gd";rename_i r1 H1 a0 a1 z1;refine eL (z:=w) nofun ?_;walk_at "gd";rename_i r2 H2 b0 b1 z2;refine cN (λe=>?_) (λe=>?_)
 .left;refine yE (z:=w) nofun λu1 hu1=>?_
  left;refine yE (z:=w) nofun λu2 hu2=>?_
  left;refine⟨by omega,?_⟩;exact q _ _ (by rw[aq];omega) (ao z2 nofun)
 .left;refine yE (z:=w) nofun λu1 hu1=>?_
  walk_at "gd";refine eL (by decide+kernel) ?_;walk_at "gd";rename_i r3 H3 c0 c1 z3;refine IK (by decide+kernel) c0 c1 λu2 hu2=>?_
  left;refine⟨by omega,?_⟩;left;refine yE (z:=w) nofun λu3 hu3=>?_
  left;refine⟨by rw[aq];omega,?_⟩;exact q _ _ (by rw[aq,aq];omega) (ao z3 nofun)
abbrev JF (n:Nat)(v:V):Prop:=∃ z:Str,v=v6 z/\z.length<=n
abbrev Jl (n:Nat):V->Bool
 | v6 z=>decide (z.length<=n)
 |_=>false
def DI (h:Jl n v=true):JF n v:=by
 cases v with
 |str z=>exact⟨z,rfl,of_decide_eq_true h⟩
 |_=>cases h
def GU {r:Int}(h0:0<=r)(h1:r<xs.length)(h:xs.all (Jl n)=true):∃ z:Str,fH xs r=some (v6 z)/\z.length<=n:=by
 obtain⟨v,hv,z,rfl,hz⟩:=gu h0 h1 λv hv=>DI (all_eq_true.mp h v hv)
 exact⟨z,hv,hz⟩
def iY {ws:List Str}{mm:Int}(z:Sep (pt p (wl (ws.map v6))::hand h mm::O) H)(hm:mm<=m)(hn:n<=900000)(ht:az ws<=n)(q:∀ (z:Str) H',z.length<=n->Sep (hand h m::O) H'->Q (v6 z) H'):x6 G.R.K .join (Str.ofString " ") (ut p) H Q:=by
 rw[show(Str.ofString " ")=bM by decide+kernel];exact FC (G:=G) z.at nofun λw hw=>q w _ nofun (ao z.drop hm)
def Cp {y:V}(s:Sep O H)(r:dg (pt a (wl xs)) (pt a (wl (xs.take i.toNat++y::xs.drop i.toNat))) O Γ')(h0:0<=i)(h1:i<=xs.length)(hl:xs.length<=10000)(h:∀ H',Sep Γ' H'->Q wf H'):yp .insert a xs [v0 i,y] H Q:=by unfold yp;exact⟨i,y,rfl,h0,h1,hl,h _ (s.put r rfl)⟩
end
def yW:bH xs none (some (n:Int))=xs.take n:=by
 unfold bH;have h1:HT.aO xs.length xs.length (some (n:Int))=min n xs.length:=by
  show(if(n:Int)<0 then((n:Int)+(xs.length:Int)).toNat else min (n:Int).toNat xs.length)=_;rw[if_neg nofun,s0]
 rw[h1,show HT.aO xs.length 0 none=0 from rfl,drop_zero,Nat.sub_zero,List.take_eq_take_iff]
 omega
def tm (hi:i=(n:Int)):bH xs (some i) none=xs.drop n:=by
 subst hi;unfold bH;have h1:HT.aO xs.length 0 (some (n:Int))=min n xs.length:=by
  show(if(n:Int)<0 then((n:Int)+(xs.length:Int)).toNat else min (n:Int).toNat xs.length)=_;rw[if_neg nofun,s0]
 rw[h1,show HT.aO xs.length xs.length none=xs.length from rfl]
 by_cases h:n<=xs.length
 .rw[Nat.min_eq_left h];exact take_of_length_le (by rw[le];exact re _)
 .rw[Nat.min_eq_right nofun,drop_of_length_le (re _),drop_of_length_le nofun,List.take_nil]
def uH {ws:List Str}{w:Str}{j:Nat}(hw:ws[j]? =some w):∃ v1 v2 v3 v4,bH (ws.map v6) none (some (j:Int))=v1.map v6/\bH (ws.map v6) (some ((j:Int)+1)) none=v2.map v6/\bH (ws.map v6) (some ((j:Int)+1)) (some ((j:Int)+2))=v3.map v6/\bH (ws.map v6) (some ((j:Int)+2)) none=v4.map v6/\az v1+w.length+1+az v2=az ws/\az v3+az v4=az v2/\v1.length<=ws.length/\v2.length<=ws.length/\v3.length<=ws.length/\v4.length<=ws.length:=by
 have hj:=(sK.mp hw).1;have e1:ws=ws.take j++(w::ws.drop (j+1)):=by
  have h:=take_append_drop j ws;rw[drop_eq_getElem_cons hj,(sK.mp hw).2]at h;exact h.symm
 have e2:ws.drop (j+1)=(ws[j+1]?).toList++ws.drop (j+2):=by
  by_cases h:j+1<ws.length
  .rw[drop_eq_getElem_cons h,li h];rfl
  .rw[drop_of_length_le nofun,drop_of_length_le nofun,getElem?_eq_none nofun];rfl
 refine⟨ws.take j,ws.drop (j+1),(ws[j+1]?).toList,ws.drop (j+2),?_,?_,?_,?_,?_,?_,?_,?_,?_,?_⟩
 .rw[yW,List.map_take]
 .rw[tm (n:=j+1) nofun,map_drop]
 .rw[BU (n:=j+1) nofun nofun,jp];cases ws[j+1]? <;>rfl
 .rw[tm (n:=j+2) nofun,map_drop]
 .have h:=congrArg az e1;rw[au,aa]at h
  omega
 .rw[e2,au]
 .rw[dL];omega
 .rw[le];omega
 .cases e:ws[j+1]? with
  |none=>exact Nat.zero_le _
  |some v=>show 1<=_;omega
 .rw[le];omega
section
variable {h:Addr}{m:Int}
def nc (hk:2<=k)(s:Sep (hand h m::O) H)(hm:m<=1099510000000)(q:∀ (z:Str) H',z.length<=100->Sep (hand h (m+1)::O) H'->Q (v6 z) H'):ae tab R k 82 [ut h] H Q E:=by
 delta gz;walk_at "gd";rename_i p1 H1 z1 p2 H2 z2 p3 H3 z3 r H4 r0 r1 z4;obtain⟨w,ev,hw⟩:=GU (n:=100) r0 r1 (by decide+kernel);refine aT (by grind) ev ?_;exact q w _ hw (z4.sub (.cons .e (uR [_,_,_,_,_,_,_])))
def ub {t:Str}(hk:3<=k)(s:Sep (hand h m::O) H)(hm:m<=1099500000000)(ht:t.length<=9000)(q:∀ (z:Str) H',z.length<=3*t.length+110->Sep (hand h (m+10)::O) H'->Q (v6 z) H'):ae tab R k 83 [ut h,v6 t] H Q E:=by
 have e0:=d9 t;generalize hws:Txt.split t bM=ws at e0;have hne:ws≠[]:=by rw[<-hws];exact nS t 32
 have hl1:1<=ws.length:=length_pos_iff.mpr hne;have hl2:=my ws;delta eW;walk_at "gd";rename_i way H1 w0 w1 z1;refine⟨_,rfl,?_⟩;left;refine jZ z1 (by decide+kernel) nofun λp H2 z2=>?_
 rw[show(Str.ofString " ")=bM by decide+kernel,hws]at z2;clear z1;have hLm:(ws.map v6).length=ws.length:=cr _;walk_at "gd";rename_i a H3 a0 a1 z3;obtain⟨j,rfl⟩:=ss a0;have hj:j<ws.length:=by omega
 obtain⟨w,hw⟩:∃ w,ws[j]? =some w:=⟨_,li hj⟩;have hwt:w.length<=t.length:=by
  have:=mn (dl hw)
  omega
 have eat:fH (ws.map v6) ((j:Nat):Int)=some (v6 w):=L2.bL (by rw[jp,hw];rfl);have ejx:rE (ws.map v6).length ((j:Nat):Int)=some j:=by rw[DE nofun (by rw[cr];omega)];rfl
 obtain⟨v1,v2,v3,v4,e1,e2,e3,e4,t1,t2,n1,n2,n3,n4⟩:=uH hw;have m1:(v1.map v6).length=v1.length:=cr _;have m2:(v2.map v6).length=v2.length:=cr _;have m3:(v3.map v6).length=v3.length:=cr _;have m4:(v4.map v6).length=v4.length:=cr _;have tt0:az []=0:=rfl;have z7:Sep (pt p (wl (ws.map v6))::hand h (m+4)::O) H3:=(ao z3 nofun).pull .k1;clear z2 z3 s;refine aN (λg=>?_) (λg=>?_)
 .right;refine aT z7.at eat ?_;left;refine y0 (m:=m+4) (O:=pt p (wl (ws.map v6))::O) nofun (z7.pull .k1) nofun nofun λx H7 hx z8=>?_
  left;refine vQ (ys:=(ws.set j x).map v6) z8 (by ac_rfl) ejx (by rw[List.map_set]) λH8 z9=>?_
  left;refine⟨_,rfl,?_⟩;left;refine iY (m:=m+10) (n:=3*t.length+110) (z9.pull .k1) nofun nofun ?_ q;have:=sF (ws:=ws) (i:=j) (v:=x)
  omega
 left;refine aN (λg=>?_) (λg=>?_)
 .right;refine nc (m:=m+4) (O:=pt p (wl (ws.map v6))::O) nofun (z7.pull .k1) nofun λx H7 hx z8=>?_
  left;refine vQ (ys:=(ws.set j x).map v6) z8 (by ac_rfl) ejx (by rw[List.map_set]) λH8 z9=>?_
  left;refine⟨_,rfl,?_⟩;left;refine iY (m:=m+10) (n:=3*t.length+110) (z9.pull .k1) nofun nofun ?_ q;have:=sF (ws:=ws) (i:=j) (v:=x)
  omega
 left;refine bB rfl rfl ?_;left;refine cN (λg=>?_) (λg=>?_)
 .left;refine mj z7 z7.at λp1 H7 z8=>?_
  left;refine mj z8 (z8.get .k1) λp2 H8 z9=>?_
  rw[e1,e2]at z9;left;refine di z9 (z9.get .k1) z9.at nofun λp3 H9 za=>?_
  rw[<-ge]at za;left;refine⟨_,rfl,?_⟩;left;exact iY (m:=m+10) (n:=3*t.length+110) (za.sub (Γ':=pt p3 (wl ((v1++v2).map v6))::hand h (m+4)::O) (.cons .e (.cons .k3 (.drop (.drop (.drop .refl)))))) nofun nofun (by rw[au];omega) q
 left;refine bB rfl rfl ?_;left;refine cN (λg=>?_) (λg=>?_)
 .left;refine mj z7 z7.at λp1 H7 z8=>?_
  left;refine aT (z8.get .k1) eat ?_;left;refine aT (z8.get .k1) eat ?_;left;refine cY z8 (pc rfl) λp2 H8 z9=>?_
  rw[e1]at z9;left;refine di z9 (z9.get .k1) z9.at (by show _+2<=_;omega) λp3 H9 za=>?_
  left;refine mj za (za.get .k3) λp4 H10 zb=>?_
  rw[e2]at zb;left;refine di zb (zb.get .k1) zb.at (by rw[db];show _+2+_<=_;omega) λp5 H11 zc=>?_
  rw[show(v1.map v6++[v6 w,v6 w])++v2.map v6=((v1++[w,w])++v2).map v6 by simp]at zc;left;refine⟨_,rfl,?_⟩;left;exact iY (m:=m+10) (n:=3*t.length+110) (zc.sub (Γ':=pt p5 (wl (((v1++[w,w])++v2).map v6))::hand h (m+4)::O) (.cons .e (.cons (.t (.t .k3)) (.drop (.drop (.drop (.drop (.drop .refl)))))))) nofun nofun (by rw[au,au,aa,aa];omega) q
 left;refine bB rfl rfl ?_;left;refine cN (λg=>?_) (λg=>?_)
 .left;refine mj z7 z7.at λp1 H7 z8=>?_
  left;refine aT (z8.get .k1) eat ?_;left;refine cY z8 (pc rfl) λp2 H8 z9=>?_
  rw[e3]at z9;left;refine di z9 (z9.get .k1) z9.at (by show _+1<=_;omega) λp3 H9 za=>?_
  left;refine mj za (za.get .k3) λp4 H10 zb=>?_
  rw[e1]at zb;left;refine di zb zb.at (zb.get .k1) (by rw[db];show _+(_+1)<=_;omega) λp5 H11 zc=>?_
  left;refine mj zc (zc.get (.t (.t .k3))) λp6 H12 zd=>?_
  rw[e4]at zd;left;refine di zd (zd.get .k1) zd.at (by rw[db,db];show _+(_+1)+_<=_;omega) λp7 H13 ze=>?_
  rw[show(v1.map v6++(v3.map v6++[v6 w]))++v4.map v6=((v1++(v3++[w]))++v4).map v6 by simp]at ze;left;refine⟨_,rfl,?_⟩;left;exact iY (m:=m+10) (n:=3*t.length+110) (ze.sub (Γ':=pt p7 (wl (((v1++(v3++[w]))++v4).map v6))::hand h (m+4)::O) (.cons .e (.cons (.t (.t (.t (.t .k3)))) (.drop (.drop (.drop (.drop (.drop (.drop (.drop .refl)))))))))) nofun nofun (by rw[au,au,au,aa];omega) q
 have z8:=z7.pull .k1;clear z7;walk_at "gd";rename_i b H4 b0 b1 z9;refine cN (λg2=>?_) (λg2=>?_)
 .left;refine mj z9 (z9.get .k1) λp1 H7 za=>?_
  rw[e1]at za;left;refine⟨_,rfl,?_⟩;left;exact iY (m:=m+10) (n:=3*t.length+110) (za.sub (Γ':=pt p1 (wl (v1.map v6))::hand h (m+4+1)::O) (.cons .e (.cons .e (.drop .refl)))) nofun nofun nofun q
 left;refine bB rfl rfl ?_;left;refine cN (λg3=>?_) (λg3=>?_)
 .right;refine⟨p,_,rfl,z9.get .k1,?_⟩;right;refine nc (k:=k-1) (m:=m+4+1) (O:=pt p (wl (ws.map v6))::O) nofun z9 nofun λx H7 hx za=>?_
  left;refine⟨_,za.get .k1,fZ za (.t .e) nofun λH8 zb=>?_⟩;rw[show ws.map v6++[v6 x]=(ws++[x]).map v6 by simp]at zb;left;refine⟨_,rfl,?_⟩;left;exact iY (m:=m+10) (n:=3*t.length+110) (zb.pull .k1) nofun nofun (by rw[au,aa];omega) q
 .right;refine⟨p,_,rfl,z9.get .k1,?_⟩;left;refine⟨_,z9.get .k1,Cp z9 (.t .e) nofun nofun nofun λH8 zb=>?_⟩;rw[show(ws.map v6).take (((j:Nat):Int)).toNat++v6 (Str.ofString "")::(ws.map v6).drop (((j:Nat):Int)).toNat=(ws.take j++(Str.ofString ""::ws.drop j)).map v6 by simp]at zb;have t3:az (ws.take j)+az (ws.drop j)=az ws:=by rw[<-au,take_append_drop]
  left;refine⟨_,rfl,?_⟩;left;exact iY (m:=m+10) (n:=3*t.length+110) (zb.pull .k1) nofun nofun (by rw[au,aa,show(Str.ofString "").length=0 by decide+kernel];omega) q
end
def qZ {n:Nat}:∀ {ws:List Str},(∀ w ∈ ws,w.length<=n)->az ws<=(n+1)*ws.length
 | [],_=>Nat.zero_le _
 |a::r,h=>by
  have h1:=qZ (ws:=r) λw hw=>h w (f8 _ hw)
  have h2:=h a lv;rw[aa,length_cons,Nat.mul_succ]
  omega
def Gi (sep:Str)(ws:List Str):(Txt.join sep ws).length<=az ws+ws.length*sep.length:=by
 have e:Txt.join sep ws=Str.join sep ws:=StrLaws.glued_eq_join _ _;rw[e];refine Nat.le_trans (StrLaws.join_length_le _ _) ?_;have:=gq ws
 omega
abbrev JC:Nat->Nat
 |0=>724
 |1=>2282
 |_=>6956
section
variable {h:Addr}{D:Ends}{E:St->XK}{x u3 u4 u5:Option V}{r6 r7 r8 r9 ra rb:Option V}{m:Int}{j:Nat}
def Ei (ro:Ro K R)(hk:28<=k)(hm:m<=1000000000000)(z:Sep [hand h m] H)(q:∀ v3 v4 v5 H',Sep [hand h (m+1000000100)] H'->D.nx [x,some (ut h),some (v0 (0+(j:Int))),v3,v4,v5,r6,r7,r8,r9,ra,rb] H'):
  wB (Fs (fM 1 o6.body)) ⟨tab,R,ae tab R (k-1),true⟩ D E [x,some (ut h),some (v0 (0+(j:Int))),u3,u4,u5,r6,r7,r8,r9,ra,rb] H:=by
 have hb3:iI 3=1000000000:=rfl;walk_at "gd";rename_i r H1 q0 q1 z1 rm H2 z2;refine EV 3 (k:=k-1) (G:=[]) (F:=[]) (h:=h) (m:=m+1) (r:=12) nofun (by decide) (by decide) nofun (z2.sub (.cons .k1 (.cons .e .nil))) λl b vs r' Δ H2 r0 r1 okb hb5 ht hl al z2=>?_
 have htot:=jm (n:=3) (b:=b);have z3:Sep ([hand h (m+1+iI 3)]++(Δ++[])) H2:=z2.sub (.cons .e (.drop .refl));obtain⟨Δ0,pl⟩:=aI hl;right;refine wL ro 3 (k:=k-1) (G:=[hand h (m+1+iI 3)]) (F:=Δ++[]) nofun okb nofun (.t pl) al z3 λH3 z4=>?_
 have htx:(oj 3 b).length<=724:=Nat.le_trans jJ nofun;generalize oj 3 b=t at htx;have z5:Sep ([hand h (m+1+iI 3)]++[]) H3:=z4.sub (.cons .e .nil);clear z z1 z2 z3 z4 hl al pl;right;refine hE ro (k:=k-1) (G:=[hand h (m+1+iI 3)]) (F:=[]) nofun nofun z5 λH4 z6=>?_
 right;refine eg (n:=(1+r).toNat) (λi U H=>∃ (t:Str) (v5:Option V),U=[x,some (ut h),some (v0 (0+(j:Int))),some (v0 (1+r)),some (v6 t),v5,r6,r7,r8,r9,ra,rb]/\t.length<=JC i/\Sep [hand h (m+1+iI 3+10*(i:Int))] H) ?_ ?_ ?_
 .exact⟨t,_,rfl,htx,ao z6 nofun⟩
 .rintro i U H hi ⟨t,v5,rfl,hb,zi⟩;have hi2:i=0\/i=1:=by omega
  have hb9:t.length<=9000:=by rcases hi2 with rfl|rfl<;>exact Nat.le_trans hb (by decide)
  right;refine ub (m:=m+1+iI 3+10*(i:Int)) (O:=[]) nofun zi nofun hb9 λt2 H' ht2 z'=>?_
  refine⟨t2,_,rfl,?_,ao z' nofun⟩;rcases hi2 with rfl|rfl
  .have hb:t.length<=724:=hb;show t2.length<=2282
   omega
  .have hb:t.length<=2282:=hb;show t2.length<=6956
   omega
 .rintro U H ⟨t,v5,rfl,hb,zi⟩;have hb9:t.length<=7000:=by
   rcases(by omega:(1+r).toNat=1\/(1+r).toNat=2) with e|e<;>rw[e]at hb<;>exact Nat.le_trans hb (by decide)
  right;refine hE ro (k:=k-1) (G:=[hand h (m+1+iI 3+10*(((1+r).toNat:Nat):Int))]) (F:=[]) nofun nofun zi λH4 z6=>?_
  right;exact q _ _ _ _ (ao z6 nofun)
abbrev IW (O:List ai)(v:V):Prop:=∃ ty,(∀ H',Sep O H'->tyName v H'=some ty)/\tab.subB.lookup (ty,"str")=some false
def Gm {y7:V}{L:Addr}(ro:Ro K R)(hk:28<=k)(hm:m<=1000000000000)(hv:IW O v)(hz:zs.length<=25)(hl:∀ w ∈ zs,w.length<=50) (z:Sep (pt L (wl (zs.map v6))::hand h m::O) H) (q:∀ H',D.rt (.bl true) H'):
  wB (fM 5 o6.body) ⟨tab,R,ae tab R (k-1),true⟩ D E [x,some (ut h),u3,u4,u5,r6,some v,some y7,some (ut L),none,none,none] H:=by
 have ts:=qZ hl;have l1:(Str.ofString "( ").length=2:=by decide+kernel
 have l2:(Str.ofString " )").length=2:=by decide+kernel
 have l3:(Str.ofString " ; ").length=3:=by decide+kernel
 have l4:(Str.ofString "( times 2 ").length=10:=by decide+kernel
 have hj:=Gi (Str.ofString " ; ") zs;rw[l3]at hj;right;refine⟨_,rfl,?_⟩;left;refine eK (G:=⟨tab,R,ae tab R (k-1),true⟩) z.at (by rw[gq];omega) (by decide+kernel) ?_;generalize Txt.join (Str.ofString " ; ") zs=y at hj;have z0:=z.drop;clear z;left;refine⟨by rw[l1];omega,?_⟩;left;refine⟨by rw[aq,l1,l2];omega,?_⟩;have hy:((Str.ofString "( "++y)++Str.ofString " )").length<=1600:=by rw[aq,aq,l1,l2];omega
 generalize (Str.ofString "( "++y)++Str.ofString " )"=y at hy;left;refine⟨by rw[l4];omega,?_⟩;left;refine⟨by rw[aq,l4,l2];omega,?_⟩;have hy2:((Str.ofString "( times 2 "++y)++Str.ofString " )").length<=1700:=by rw[aq,aq,l4,l2];omega
 generalize (Str.ofString "( times 2 "++y)++Str.ofString " )"=y2 at hy2;walk_at "gd";rename_i p1 H1 z1 d1 H2 a0 a1 z2;obtain⟨v9,ev,⟨yy,rfl,hyy⟩⟩:=gu (xs:=[v6 y,v6 y2]) (P:=λv=>∃ z:Str,v=v6 z/\z.length<=1700) (r:=d1) a0 (by simpa using a1) (uW ⟨y,rfl,by omega⟩ ⟨y2,rfl,hy2⟩);refine aT (by grind) ev ?_;have z3:Sep (hand h (m+1)::O) H2:=z2.sub (.cons .e (.drop .refl));clear z1 z2 z0 ev;walk_at "gd";rename_i p2 H3 z4 d2 H4 b0 b1 z5;obtain⟨va,ev,⟨ya,rfl,hya⟩⟩:=gu (xs:=[v6 (Str.ofString "( copy )"),v6 (Str.ofString "( times 2 ( ) )")]) (P:=λv=>∃ z:Str,v=v6 z/\z.length<=20) (r:=d2) b0 (by simpa using b1) (uW ⟨_,rfl,by decide+kernel⟩ ⟨_,rfl,by decide+kernel⟩);refine aT (by grind) ev ?_;have z6:Sep (hand h (m+1+1)::O) H4:=z5.sub (.cons .e (.drop .refl));clear z3 z4 z5 ev;have l5:(Str.ofString "( times 1 ( when 1 ( do a ) else ( times 0 ").length=43:=by decide+kernel
 have l6:(Str.ofString " ) ) )").length=6:=by decide+kernel
 left;refine⟨by rw[l5];omega,?_⟩;left;refine⟨by rw[aq,l5,l6];omega,?_⟩;have hyd:((Str.ofString "( times 1 ( when 1 ( do a ) else ( times 0 "++ya)++Str.ofString " ) ) )").length<=100:=by rw[aq,aq,l5,l6];omega
 generalize (Str.ofString "( times 1 ( when 1 ( do a ) else ( times 0 "++ya)++Str.ofString " ) ) )"=yd at hyd;obtain⟨ty,hv1,hv2⟩:=hv;right;refine xC (k:=k-1) (O:=hand h (m+1+1)::O) nofun (λH' z'=>hv1 H' z'.drop) hv2 z6 λP H5 z7=>?_
 right;rename_i P2 H6 z8;refine fL (n:=2) (c:=true) (sj rfl (z8.get .k1) z8.at) (by decide) ((z8.pull .k1).ne) ?_;have z9:=z8.drop.drop;clear z6 z7 z8;right;have R1:∀ {t:Str}{H:Hp}{Q:VK}{E:XK},t.length<=7000->Sep (hand h (m+1+1)::O) H->(∀ H',Sep (hand h (m+1+1)::O) H'->Q (.bl true) H')->ae tab R (k-1) 80 [v6 t] H Q E:=λ{t H Q E} ht z q=>hE ro (G:=[]) nofun ht z q
 refine R1 nofun z9 λH7 zA=>?_
 right;refine R1 nofun zA λH8 zB=>?_
 right;refine R1 (by decide+kernel) zB λH9 zC=>?_
 right;refine R1 (by decide+kernel) zC λHA zD=>?_
 right;refine R1 (by decide+kernel) zD λHB zE=>?_
 right;refine R1 (by decide+kernel) zE λHC zF=>?_
 right;refine R1 (by decide+kernel) zF λHD zG=>?_
 right;exact q _
end
def Ep (ro:Ro K R)(hk:29<=k):∀ vs H Q E,iP K 63 vs H Q E->ae tab R k 84 vs H Q E:=by
 rintro vs H Q E ⟨a,is,rfl,hS,h63,hQ⟩;delta o6;right;rw[<-ro.hK]at hS;refine D9 nofun Sep.nil hS h63 (λh H1 z1=>?_);right;refine eg (n:=8) (λj U H=>∃ u2 u3 u4 u5,U=[some (ut a),some (ut h),u2,u3,u4,u5,none,none,none,none,none,none]/\Sep [hand h (1000000100*(j:Int))] H) ?_ ?_ ?_
 .exact⟨_,_,_,_,rfl,z1⟩
 .rintro j U H hj ⟨u2,u3,u4,u5,rfl,z⟩;exact Ei (k:=k) ro nofun nofun z λv3 v4 v5 H' z'=>⟨_,_,_,_,rfl,ao z' nofun⟩
 .rintro U H ⟨u2,u3,u4,u5,rfl,z⟩;walk_at "gd";rename_i p1 H2 z2 p2 H3 z3 p3 H4 z4 p4 H5 z5 p5 H6 z6 r H7 r0 r1 z7;have hv:∀ v ∈ [wf,v0 5,V.bl true,ut p1,ut p2,ut p3,ut p4],IW [pt p5 (wl [wf,v0 5,V.bl true,ut p1,ut p2,ut p3,ut p4]),pt p4 (.dK []),pt p3 (wn [v6 (Str.ofString "( )")]),pt p2 (wl [v6 (Str.ofString "( )")]),pt p1 (wl [])] v:=by
   intro v hv;simp only[lw,not_mem_nil,or_false]at hv;rcases hv with rfl|rfl|rfl|rfl|rfl|rfl|rfl
   .exact⟨"NoneType",λH' _=>rfl,rfl⟩
   .exact⟨"int",λH' _=>rfl,rfl⟩
   .exact⟨"bool",λH' _=>rfl,rfl⟩
   .exact⟨"list",λH' z=>Cg (z.get (.t .k3)),rfl⟩
   .exact⟨"list",λH' z=>Cg (z.get .k3),rfl⟩
   .exact⟨"tuple",λH' z=>IL (z.get .k2),rfl⟩
   .exact⟨"dict",λH' z=>II (z.get .k1),rfl⟩
  obtain⟨v,ev,hv⟩:=gu r0 (by simpa using r1) hv;refine aT (by grind) ev ?_;clear z2 z3 z4 z5 z6 ev;generalize hΓ:[pt p5 (wl [wf,v0 5,V.bl true,ut p1,ut p2,ut p3,ut p4]),pt p4 (.dK []),pt p3 (wn [v6 (Str.ofString "( )")]),pt p2 (wl [v6 (Str.ofString "( )")]),pt p1 (wl [])]=O at hv;have z8:Sep (hand h (8000000801)::O) H7:=by rw[<-hΓ];exact ao z7 nofun
  clear z7 hΓ;walk_at "gd";rename_i d H8 d0 d1 z9;refine qS (n:=(24+d).toNat) nofun (λD ys H=>(∃ zs:List Str,ys=zs.map v6/\∀ w ∈ zs,w.length<=50)/\Sep (pt D (wl ys)::hand h (8000000802+10*(ys.length:Int))::O) H) (λD hD=>⟨⟨[],rfl,λc hc=>nomatch hc⟩,?_⟩) (λD ys H hy hI=>?_) (λD ys H hly hI=>?_)
  .exact((ao ((z9.new (o:=wl []) hD).pull .k1) (by simp)).pull .k1)
  .obtain⟨⟨zs,rfl,hzs⟩,z5⟩:=hI;have hL:(zs.map v6).length=zs.length:=cr _;right;refine⟨_,rfl,?_⟩;right;refine qT (k:=k-1) nofun (z5.pull .k1) nofun (by decide) (by decide) λt rr H2 okr z6=>?_
   right;refine fK (k:=k-1) nofun okr z6 λp H3 z7=>?_
   have ht:=yf okr;rw[Rw.wN]at z7;left;rw[show(Str.ofString " ")=bM by decide+kernel];refine FC (G:=⟨tab,R,ae tab R (k-1),true⟩) z7.at nofun λw hw=>?_
   have z8:Sep (pt D (wl (zs.map v6))::hand h (8000000802+10*((zs.map v6).length:Int)+10)::O) H3:=z7.sub (.cons .k3 (.cons .k2 (.drop (.drop .refl))));refine oB.mk z8.at nofun ⟨⟨zs++[w],by simp,λc hc=>?_⟩,?_⟩
   .rcases mem_append.mp hc with hc|hc
    .exact hzs c hc
    .rw[mem_singleton.mp hc];omega
   .have zA:=z8.set (o':=wl (zs.map v6++[v6 w])) rfl;exact(ao (zA.pull .k1) (by rw[db,gt];omega)).pull .k1
  .obtain⟨⟨zs,rfl,hzs⟩,z5⟩:=hI;have hL:(zs.map v6).length=zs.length:=cr _;exact Gm (k:=k) ro nofun nofun hv nofun hzs z5 λH'=>hQ H'
def wb (ro:Ro K R):∀ vs H Q E,iP K 63 vs H Q E->ae tab R 29 84 vs H Q E:=Ep ro (re _)
end
def walk {l:W.OpenLaw}{q:Program}{loose:List Str}{XP:(Str->Option Value)->Heap->Prop}{YP:World->Heap->Prop}{d:DefRec}{K:Params->W.Frag}(hn:l.most=some 63)(hdf:d.params.defaults=[])
    (hY:∀ (w:World) (h:Heap),YP w h->(K w.params).In h)
    (F:∀ (w:World) (mg:JW) (fa:Addr) (h:Heap),(K w.params).In h->h.Ns mainGlobals mg->mg d.name=some (.ref fa)->
      ∃ fd:FuncData,(∀ (s:Shared) (u:Value),BindsTo s fd ⟨[u],[]⟩ [("_law_script",u)])/\∀ base:Heap,(K w.params).In base->base.Ns mainGlobals mg->cT l.prog w (K w.params) mg base (xb l.prog w) 58 fa fd ["_law_script"] (iP (K w.params) 63)):
    W.WalkO q loose XP YP l.row.toRowW d [] (λf vs=>PySem.call f vs):=
  L2.yS (n:=63) (k:=58) (x:="_law_script") (CX:=λw=>xb l.prog w) (sp:=λw=>iP (K w.params) 63) hn (by decide) hdf ⟨rfl,by decide,by decide⟩ hY F (λ_ _ a ns hl _ hS=>⟨a,ns,rfl,hS,hl,λ_=>rfl⟩) λ_ _ _ _ _ z=>uY z
abbrev Jh:List (Str×V):=[("BOUND",.int 1000000000),("MOST_HOPPED",.int 24),("LONGEST_NAME",.int 8),("MOST_FIGURES",.int 10),("MOST_TIMES",.int 9),("MOST_ITEMS",.int 24),("DEEPEST",.int 4),("LETTERS",.str "abcdefghijklmnopqrstuvwxyz"),("FIGURES",.str "0123456789"),("NAMES",.ref 137)]
def JP (p:Params):L3.Ae (K0 p) tab HY Jc Jh=true:=by kernel_rfl
def JG (p:Params):L3.kg (K0 p) tab HY 0 tab.fns=true:=by kernel_rfl
end My
open PySem PySem.W PyProof.Rows
set_option maxRecDepth 100000 in
set_option maxHeartbeats 0 in
theorem PySem.Challenge.cw_haulbell_k92_no_blocks_holds : PySem.Challenge.rw_haulbell_k92_no_blocks.Holds := by
  refine holds_law My.EX fun said=>?_
  refine W.holds_open (loose:=My.x9) (N:=16384)
    (q:=My.nu My.pr)
    (Yf:=fun s=>My.Hc.map s.heap.get?)
    (Ya:=fun w=>(My.K0 w.params).map fun p=>some p.2)
    (Xt:=fun s=>xlAt (My.nu My.pr) [] s&&recOk PySem.Challenge.rw_haulbell_k92_no_blocks.row.records s)
    (XP:=XL (My.nu My.pr) [])
    (YP:=InK My.K0) My.Ge
    (InK.of (as:=My.Hc) fun _=>by kernel_rfl) InK.keeps
    (fun s e=>xl_of s (Bool.and_eq_true_iff.mp e).1)
    XL.keeps (by rfl) (by rfl) (by rfl)
    (fun s e=>recFacts_of (Bool.and_eq_true_iff.mp e).2)
    (by rfl) (by assumption) (by decide+kernel)
    ⟨rfl,rfl,rfl,rfl,rfl,by decide+kernel⟩ ?hw ?hc
  case hw=>w_witness2
  refine My.walk (l:=PySem.Challenge.rw_haulbell_k92_no_blocks) rfl rfl (fun w h Y=>Y) ?F
  case F=>
    intro w mg fa h KX G hmg;exact L3.Bh KX G hmg (T:=My.tab) (fs:=My.HY) (cs:=My.Jc) (gs:=My.Jh) (d:=My.o6) (fl:=84) (k:=29) (My.JP _) (My.JG _) (by kernel_rfl) rfl rfl rfl (My.wb ⟨rfl,by kernel_rfl,by kernel_rfl,by kernel_rfl,by kernel_rfl,by kernel_rfl,by kernel_rfl,by kernel_rfl,by kernel_rfl,by kernel_rfl,⟨137,by kernel_rfl,L3.Ct (by kernel_rfl)⟩⟩)
